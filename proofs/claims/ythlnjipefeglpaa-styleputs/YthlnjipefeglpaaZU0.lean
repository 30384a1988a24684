import Derived.Below
import Derived.ChangeSame
import Derived.OpenShut
import Derived.Carry
import Derived.Deep.Draws
import Derived.WalkKit
import Derived.Test.YthlnjipefeglpaaProg
import Derived.WalkSpells
import Derived.WalkLawsBesides
import Derived.Laws.BitsAllLaws
import Derived.Lib.Hide
import Derived.Deep.QuietTactic
import Derived.BigQuiet
import Derived.Outline
namespace Go.Proofs.Ythlnjipefeglpaa
open Go.RowKit Go.WideShapes Go.ChangeShapes
theorem bd64 {a : Int} (h : (Lit.int .i64 a).wf = true) : -9223372036854775808 ≤ a ∧ a ≤ 9223372036854775807 := bounds_i64 h
end Go.Proofs.Ythlnjipefeglpaa
namespace Go.Proofs.Ythlnjipefeglpaa
open Go.RowKit Go.WideShapes Go.ChangeShapes
theorem trodAll_below {H : Type} {enc : TypeId × Value → H} {P : Program} (hl : laidOutB P = true) {W W' : World} (hb : Below W.heap.size W W') :
    ∀ (ts : List TypeId) (vs : List Value) (ds : List (DataW H)) (ps : List MemPlace), (∀ t ∈ ts, P.readableRec t = true ∧ t < P.types.size) → (∀ x ∈ ps, x.block < W.heap.size) →
      DataW.TrodAll enc P W 0 (fun _ => true) true ts vs ds ps → DataW.TrodAll enc P W' 0 (fun b => decide (b < W.heap.size)) true ts vs ds ps
  | [], vs, ds, ps, _, _, h => by
    obtain ⟨rfl, rfl, rfl⟩ := trodAll_nil h
    exact trodAll_mk0
  | t :: ts, vs, ds, ps, hr, hlt, h => by
    obtain ⟨v, vs', d, ds', p, q, rfl, rfl, rfl, h0, h1⟩ := trodAll_cons h
    exact trodAll_cons_mk (Below.trod hl (hr t (by simp)).1 (hr t (by simp)).2 h0 hb (fun x hx => hlt x (by simp [hx]))) (trodAll_below hl hb ts vs' ds' q (fun u hu => hr u (by simp [hu])) (fun x hx => hlt x (by simp [hx])) h1)
theorem post_law {H : Type} {enc : TypeId × Value → H} {P : Program} {f : Func} {s : ChangeSpec} {apart fresh handsOn : Bool} {W W' : World} {args : Array Value} {v : Value} {ds gs : List (DataW H)} {before p : List MemPlace}
    (hl : laidOutB P = true) (hr : ∀ t ∈ f.params.toList, P.readableRec t = true ∧ t < P.types.size)
    (hW : DataW.Whole enc P f.params.toList s.vars apart W args.toList ds gs before) (hA : DataW.TrodAll enc P W 0 (fun _ => true) true f.params.toList args.toList ds p) (hp : before = p)
    (hres : ∀ (b : Nat) (sp : Nat → Bool) (hd : Bool), DataW.TrodAll enc P W' b sp hd f.resultTypes.toList (v.resultList f.resultTypes.size) (s.fn H (ds ++ gs)).results [])
    (hargs : (s.fn H (ds ++ gs)).args = ds) (hvars : ∀ sp : Nat → Bool, DataW.TrodVars enc P W' sp s.vars (s.fn H (ds ++ gs)).vars [])
    (hb : Below W.heap.size W W') : s.post enc P f apart fresh handsOn false W args v W' := by
  subst hp
  refine ⟨ds, gs, before, [], before, [], hW, hres _ _ _, ?_, hvars _, World.keptBut_mono (fun q hq => ⟨hq, Or.inr (Or.inl hq)⟩) (hb.frame (· ∈ before)), fun h => by cases h⟩
  rw [hargs]
  exact trodAll_below hl hb _ _ _ _ hr (fun x hx => hW.lt x hx) hA
end Go.Proofs.Ythlnjipefeglpaa
namespace Go.Proofs.Ythlnjipefeglpaa
open Go.RowKit
theorem bq_trans {a b c : World} (h : Below a.heap.size a b) (k : Below b.heap.size b c) : Below a.heap.size a c := h.trans (k.mono h.size)
theorem bq_alloc {a b : World} (h : Below a.heap.size a b) (o : Obj) : Below a.heap.size a (b.alloc o) := h.alloc h.size o
theorem bq_drew {a b : World} (h : Below a.heap.size a b) : Below a.heap.size a b.drew := h.drew
theorem bq_drewN {a b : World} (h : Below a.heap.size a b) (n : Nat) : Below a.heap.size a (b.drewN n) := ⟨h.os, h.tape, h.output, h.size, h.block⟩
theorem bq_set {a b : World} (h : Below a.heap.size a b) (p : Addr) (hp : a.heap.size ≤ p.block) (v : Value) : Below a.heap.size a (b.setCell p v) := h.setCell hp v
theorem bq_refl (a : World) : Below a.heap.size a a := Below.refl _ _
end Go.Proofs.Ythlnjipefeglpaa
namespace Go.Proofs.Ythlnjipefeglpaa.B
def P2 (n : Nat) : Nat := 2 ^ n
theorem P2_zero : P2 0 = 1 := rfl
theorem P2_succ (n : Nat) : P2 (n + 1) = 2 * P2 n := by unfold P2; rw [Nat.pow_succ]; omega
theorem P2_pos (n : Nat) : 0 < P2 n := Nat.two_pow_pos n
theorem P2_add (a b : Nat) : P2 (a + b) = P2 a * P2 b := Nat.pow_add 2 a b
theorem P2_le {a b : Nat} (h : a ≤ b) : P2 a ≤ P2 b := Nat.pow_le_pow_right (by omega) h
theorem P2_8 : P2 8 = 256 := rfl
theorem P2_dvd {a b : Nat} (h : a ≤ b) : P2 a ∣ P2 b := Nat.pow_dvd_pow 2 h
theorem P2_byte (k : Nat) : P2 (8 * (k + 1)) = 256 * P2 (8 * k) := by rw [show 8 * (k + 1) = 8 + 8 * k by omega, P2_add, P2_8]
theorem div_div (x a b : Nat) : x / P2 a / P2 b = x / P2 (a + b) := by rw [Nat.div_div_eq_div_mul, P2_add]
theorem mod_div (x a b : Nat) : x % P2 (a + b) / P2 a = x / P2 a % P2 b := by rw [P2_add, Nat.mod_mul_right_div_self]
theorem mod_mod {n a : Nat} (x : Nat) (h : n ≤ a) : x % P2 a % P2 n = x % P2 n := Nat.mod_mod_of_dvd x (P2_dvd h)
theorem mod_split (x n m : Nat) : x % P2 (n + m) = x / P2 m % P2 n * P2 m + x % P2 m := by
  rw [Nat.add_comm n m, P2_add, Nat.mod_mul, Nat.mul_comm (P2 m), Nat.add_comm]
theorem div_lt {x a b : Nat} (h : x < P2 (a + b)) : x / P2 a < P2 b := by
  rw [Nat.div_lt_iff_lt_mul (P2_pos a), Nat.mul_comm, ← P2_add]; exact h
theorem mul_add_div (x y m : Nat) (h : y < P2 m) : (x * P2 m + y) / P2 m = x := by
  rw [Nat.mul_comm, Nat.mul_add_div (P2_pos m), Nat.div_eq_of_lt h]; omega
theorem mul_add_mod (x y m : Nat) (h : y < P2 m) : (x * P2 m + y) % P2 m = y := by
  rw [Nat.mul_comm, Nat.mul_add_mod, Nat.mod_eq_of_lt h]
def bv (l : List UInt8) : Nat := l.foldl (fun a b => 256 * a + b.toNat) 0
theorem bv_nil : bv [] = 0 := rfl
theorem bv_snoc (l : List UInt8) (b : UInt8) : bv (l ++ [b]) = 256 * bv l + b.toNat := by simp [bv]
theorem snoc_induct {p : List UInt8 → Prop} (h0 : p []) (h1 : ∀ l b, p l → p (l ++ [b])) (l : List UInt8) : p l := by
  have H : ∀ n (l : List UInt8), l.length = n → p l := by
    intro n
    induction n with
    | zero => intro l h; rw [List.length_eq_zero_iff.1 h]; exact h0
    | succ n ih =>
      intro l h
      have hne : l ≠ [] := by intro e; rw [e] at h; simp at h
      rw [← List.dropLast_concat_getLast hne]
      exact h1 _ _ (ih _ (by simp [h]))
  exact H _ l rfl
theorem bv_append (a b : List UInt8) : bv (a ++ b) = bv a * P2 (8 * b.length) + bv b := by
  induction b using snoc_induct with
  | h0 => simp [bv_nil, P2_zero]
  | h1 l c ih =>
    rw [← List.append_assoc, bv_snoc, bv_snoc, ih, List.length_append, List.length_singleton, P2_byte, Nat.mul_add, Nat.mul_left_comm, Nat.add_assoc]
theorem bv_lt (l : List UInt8) : bv l < P2 (8 * l.length) := by
  induction l using snoc_induct with
  | h0 => simp [bv_nil, P2_zero]
  | h1 l c ih =>
    rw [bv_snoc, List.length_append, List.length_singleton, P2_byte]
    have := c.toNat_lt
    omega
theorem bv_take (l : List UInt8) (k : Nat) : bv (l.take k) = bv l / P2 (8 * (l.length - k)) := by
  have h := bv_append (l.take k) (l.drop k)
  rw [List.take_append_drop, List.length_drop] at h
  have hl := bv_lt (l.drop k)
  rw [List.length_drop] at hl
  rw [h, mul_add_div _ _ _ hl]
theorem bv_drop (l : List UInt8) (k : Nat) : bv (l.drop k) = bv l % P2 (8 * (l.length - k)) := by
  have h := bv_append (l.take k) (l.drop k)
  rw [List.take_append_drop, List.length_drop] at h
  have hl := bv_lt (l.drop k)
  rw [List.length_drop] at hl
  rw [h, mul_add_mod _ _ _ hl]
def enc : Nat → Nat → List UInt8
  | 0, _ => []
  | m + 1, x => enc m (x / 256) ++ [UInt8.ofNat (x % 256)]
theorem enc_len (m x : Nat) : (enc m x).length = m := by
  induction m generalizing x with
  | zero => rfl
  | succ m ih => simp [enc, ih]
theorem ofNat_toNat (x : Nat) (h : x < 256) : (UInt8.ofNat x).toNat = x := by simp; omega
theorem enc_snoc (m : Nat) (x : Nat) (b : UInt8) : enc (m + 1) (256 * x + b.toNat) = enc m x ++ [b] := by
  have := b.toNat_lt
  rw [enc, show (256 * x + b.toNat) / 256 = x by omega, show (256 * x + b.toNat) % 256 = b.toNat by omega]
  simp
theorem enc_bv (l : List UInt8) : enc l.length (bv l) = l := by
  induction l using snoc_induct with
  | h0 => rfl
  | h1 l c ih => rw [bv_snoc, List.length_append, List.length_singleton, enc_snoc, ih]
theorem bv_enc (m x : Nat) (h : x < P2 (8 * m)) : bv (enc m x) = x := by
  induction m generalizing x with
  | zero => rw [Nat.mul_zero, P2_zero] at h; simp [enc, bv_nil]; omega
  | succ m ih =>
    rw [P2_byte] at h
    rw [enc, bv_snoc, ih _ (by omega), ofNat_toNat _ (Nat.mod_lt _ (by omega))]
    omega
theorem enc_append (a b x y : Nat) (h : y < P2 (8 * b)) : enc (a + b) (x * P2 (8 * b) + y) = enc a x ++ enc b y := by
  induction b generalizing y with
  | zero => rw [Nat.mul_zero, P2_zero] at h; simp [enc, P2_zero]; congr 1; omega
  | succ b ih =>
    rw [P2_byte] at h
    rw [P2_byte, show a + (b + 1) = a + b + 1 from rfl, enc, enc]
    have e1 : (x * (256 * P2 (8 * b)) + y) / 256 = x * P2 (8 * b) + y / 256 := by
      rw [Nat.mul_left_comm, Nat.mul_add_div (by omega)]
    have e2 : (x * (256 * P2 (8 * b)) + y) % 256 = y % 256 := by
      rw [Nat.mul_left_comm, Nat.mul_add_mod]
    rw [e1, e2, ih _ (by omega), List.append_assoc]
def fld (l : List UInt8) (p n : Nat) : Nat := bv l / P2 (8 * l.length - (p + n)) % P2 n
theorem fld_lt (l : List UInt8) (p n : Nat) : fld l p n < P2 n := Nat.mod_lt _ (P2_pos n)
theorem fld_split (l : List UInt8) (p n m : Nat) (h : p + n + m ≤ 8 * l.length) : fld l p (n + m) = fld l p n * P2 m + fld l (p + n) m := by
  unfold fld
  rw [mod_split, div_div]
  rw [show 8 * l.length - (p + (n + m)) + m = 8 * l.length - (p + n) by omega, show 8 * l.length - (p + n + m) = 8 * l.length - (p + (n + m)) by omega]
theorem fld_number (l : List UInt8) (a b : Nat) (hab : a ≤ b) (hb : b ≤ 8 * l.length) :
    bv ((l.take ((b + 7) / 8)).drop (a / 8)) / P2 (8 * ((b + 7) / 8) - b) % P2 (b - a) = fld l a (b - a) := by
  obtain ⟨e, he⟩ : ∃ e, e = (b + 7) / 8 := ⟨_, rfl⟩
  obtain ⟨f, hf⟩ : ∃ f, f = a / 8 := ⟨_, rfl⟩
  rw [← he, ← hf, bv_drop, bv_take, List.length_take, Nat.min_eq_left (by omega)]
  obtain ⟨d, hd⟩ : ∃ d, d = 8 * e - b := ⟨_, rfl⟩
  rw [← hd, show 8 * (e - f) = d + (8 * (e - f) - d) by omega, mod_div, mod_mod _ (by omega), div_div]
  unfold fld
  rw [show 8 * (l.length - e) + d = 8 * l.length - (a + (b - a)) by omega]
theorem take_drop_snoc (l : List UInt8) (f i : Nat) (hf : f ≤ i) (hi : i < l.length) : (l.take (i + 1)).drop f = (l.take i).drop f ++ [l[i]] := by
  rw [List.take_succ_eq_append_getElem hi, List.drop_append_of_le_length (by simp; omega)]
theorem bv_part_snoc (l : List UInt8) (f i : Nat) (hf : f ≤ i) (hi : i < l.length) : bv ((l.take (i + 1)).drop f) = 256 * bv ((l.take i).drop f) + l[i].toNat := by
  rw [take_drop_snoc l f i hf hi, bv_snoc]
theorem bv_part_nil (l : List UInt8) (f : Nat) : bv ((l.take f).drop f) = 0 := by
  rw [List.drop_eq_nil_of_le (by simp; omega)]; rfl
theorem bv_part_lt (l : List UInt8) (f i k : Nat) (h : i ≤ f + k) : bv ((l.take i).drop f) < P2 (8 * k) := by
  refine Nat.lt_of_lt_of_le (bv_lt _) (P2_le ?_)
  simp only [List.length_drop, List.length_take]
  omega
theorem fld_bit (l : List UInt8) (i : Nat) (h : i / 8 < l.length) : fld l i 1 = l[i / 8].toNat / P2 (7 - i % 8) % 2 := by
  have hk := bv_take l (i / 8 + 1)
  rw [List.take_succ_eq_append_getElem h, bv_snoc] at hk
  unfold fld
  rw [show 8 * l.length - (i + 1) = 8 * (l.length - (i / 8 + 1)) + (7 - i % 8) by omega, ← div_div, ← hk]
  have e : 256 = P2 (7 - i % 8) * P2 (i % 8 + 1) := by rw [← P2_add, show 7 - i % 8 + (i % 8 + 1) = 8 by omega, P2_8]
  rw [e, Nat.mul_assoc, Nat.mul_add_div (P2_pos _), P2_succ]
  show _ % 2 = _
  rw [Nat.mul_assoc, Nat.mul_add_mod]
def lv : List UInt8 → Nat
  | [] => 0
  | b :: l => b.toNat + 256 * lv l
theorem lv_snoc (l : List UInt8) (b : UInt8) : lv (l ++ [b]) = lv l + b.toNat * P2 (8 * l.length) := by
  induction l with
  | nil => simp [lv, P2_zero]
  | cons c l ih =>
    rw [List.cons_append, lv, ih, lv, List.length_cons, P2_byte, Nat.mul_add, Nat.mul_left_comm]
    omega
theorem lv_lt (l : List UInt8) : lv l < P2 (8 * l.length) := by
  induction l with
  | nil => simp [lv, P2_zero]
  | cons c l ih =>
    rw [lv, List.length_cons, P2_byte]
    have := c.toNat_lt
    omega
theorem lv_take_succ (l : List UInt8) (k : Nat) (h : k < l.length) : lv (l.take (k + 1)) = lv (l.take k) + l[k].toNat * P2 (8 * k) := by
  rw [List.take_succ_eq_append_getElem h, lv_snoc, List.length_take, Nat.min_eq_left (by omega)]
theorem lv_take_lt (l : List UInt8) (k : Nat) : lv (l.take k) < P2 (8 * k) := by
  refine Nat.lt_of_lt_of_le (lv_lt _) (P2_le ?_)
  rw [List.length_take]; omega
theorem lv_take_all (l : List UInt8) (k : Nat) (h : l.length ≤ k) : lv (l.take k) = lv l := by rw [List.take_of_length_le h]
end Go.Proofs.Ythlnjipefeglpaa.B
namespace Go.Proofs.Ythlnjipefeglpaa
open Go.RowKit
set_option linter.unusedVariables false
theorem ret_int {k : IntKind} {a b : Int} (h : a = b) : Ending.returned (.int k a) = .returned (.int k b) := by rw [h]
theorem ret_bool {a b : Bool} (h : a = b) : Ending.returned (.bool a) = .returned (.bool b) := by rw [h]
theorem i64_id (x : Int) (h0 : -9223372036854775808 ≤ x) (h1 : x ≤ 9223372036854775807) : wrap64 x = x := by unfold wrap64; omega
theorem i64_wrap (x : Int) (h0 : -9223372036854775808 ≤ x) (h1 : x ≤ 9223372036854775807) : IntKind.i64.wrap x = x := by rw [IntKind.wrap_i64]; omega
theorem ofInt_i64 (a : Nat) (ha : a < 9223372036854775808) : (BitVec.ofInt 64 (a : Int)).toNat = a := by
  rw [BitVec.ofInt_natCast, BitVec.toNat_ofNat]; exact Nat.mod_eq_of_lt (by omega)
theorem i64_or_nat (a b : Nat) (ha : a < 9223372036854775808) (hb : b < 9223372036854775808) : bits .or .i64 (a : Int) (b : Int) = ((a ||| b : Nat) : Int) := by
  have hx : a ||| b < 2 ^ 63 := Nat.or_lt_two_pow (by omega) (by omega)
  show IntKind.i64.wrap ((BitVec.ofInt 64 (a : Int) ||| BitVec.ofInt 64 (b : Int)).toNat : Int) = _
  rw [BitVec.toNat_or, ofInt_i64 a ha, ofInt_i64 b hb, IntKind.wrap_i64]
  omega
theorem i64_and_nat (a b : Nat) (ha : a < 9223372036854775808) (hb : b < 9223372036854775808) : bits .and .i64 (a : Int) (b : Int) = ((a &&& b : Nat) : Int) := by
  have hx : a &&& b < 2 ^ 63 := Nat.and_lt_two_pow _ (by omega)
  show IntKind.i64.wrap ((BitVec.ofInt 64 (a : Int) &&& BitVec.ofInt 64 (b : Int)).toNat : Int) = _
  rw [BitVec.toNat_and, ofInt_i64 a ha, ofInt_i64 b hb, IntKind.wrap_i64]
  omega
theorem P2_cast (n : Nat) : (2 : Int) ^ n = (B.P2 n : Int) := by unfold B.P2; push_cast; rfl
theorem P2_bd {n : Nat} (h : n ≤ 62) : B.P2 n ≤ 4611686018427387904 := B.P2_le (b := 62) h
theorem or_join (x y n : Nat) (hy : y < B.P2 n) (h : x * B.P2 n + y < 9223372036854775808) : bits .or .i64 ((x * B.P2 n : Nat) : Int) (y : Int) = ((x * B.P2 n + y : Nat) : Int) := by
  have hj := nat_join n (x * B.P2 n) y (Nat.mul_mod_left _ _) hy
  rw [i64_or_nat _ _ (by omega) (by omega), hj]
theorem or_byte (x : Nat) (c : UInt8) (h : x ≤ 36028797018963000) : bits .or .i64 ((x : Int) * 256) (wrap64 (c.toNat : Int)) = ((256 * x + c.toNat : Nat) : Int) := by
  have hc := c.toNat_lt
  rw [i64_id _ (by omega) (by omega)]
  have := or_join x c.toNat 8 (by rw [B.P2_8]; omega) (by rw [B.P2_8]; omega)
  rw [B.P2_8] at this
  rw [show (x : Int) * 256 = ((x * 256 : Nat) : Int) by omega, this, Nat.mul_comm]
theorem and_mask (x n : Nat) (hx : x < 9223372036854775808) (hn : n ≤ 62) : bits .and .i64 (x : Int) (wrap64 (wrap64 (2 ^ n) - 1)) = ((x % B.P2 n : Nat) : Int) := by
  have h1 := B.P2_pos n
  have h2 := P2_bd hn
  rw [P2_cast, i64_id (B.P2 n : Int) (by omega) (by omega), i64_id ((B.P2 n : Int) - 1) (by omega) (by omega), show (B.P2 n : Int) - 1 = ((B.P2 n - 1 : Nat) : Int) by omega, i64_and_nat _ _ hx (by omega)]
  unfold B.P2
  rw [Nat.and_two_pow_sub_one_eq_mod]
theorem div_pow (x k : Nat) : (x : Int) / 2 ^ k = ((x / B.P2 k : Nat) : Int) := by rw [P2_cast]; push_cast; rfl
theorem isfield_any (n : Int) (w : World) :
    Calls Try.prog 99 #[.int .i64 n] w fun e w' => e = .returned (.bool (decide (0 ≤ n) && decide (n ≤ 31))) ∧ w = w' := by
  go_enter Try.func99, Try.ntmps99
  go_wp2
  all_goals (go_ret; exact ⟨ret_bool (by simp; try omega), rfl⟩)
theorem islittle_any (n : Int) (w : World) :
    Calls Try.prog 65 #[.int .i64 n] w fun e w' => e = .returned (.bool (decide (1 ≤ n) && decide (n ≤ 4))) ∧ w = w' := by
  go_enter Try.func65, Try.ntmps65
  go_wp2
  all_goals (go_ret; exact ⟨ret_bool (by simp; try omega), rfl⟩)
theorem isright_any (s : ByteArray) (a : Int) (w : World) (hs : s.size ≤ 1099511627776) :
    Calls Try.prog 89 #[.agg #[.string s, .int .i64 a]] w fun e w' => e = .returned (.bool (decide (0 ≤ a) && decide (a ≤ 8 * s.size))) ∧ Below w.heap.size w w' := by
  go_enter Try.func89, Try.ntmps89
  go_wp2
  all_goals (go_ret; exact ⟨ret_bool (by simp; try omega), bq_alloc (Below.refl _ _) _⟩)
theorem putbytes_any (s t : ByteArray) (a : Int) (w : World) (hs : s.size ≤ 1099511627776) (ht : t.size ≤ 1099511627776) :
    Calls Try.prog 34 #[.agg #[.string s, .int .i64 a], .string t] w fun e w' => e = .returned (.agg #[.string (s ++ t), .int .i64 0]) ∧ Below w.heap.size w w' := by
  go_enter Try.func34, Try.ntmps34
  go_wp2
  exact bodyPost_ret (v := .agg #[.string (s ++ t), .int .i64 0]) (by simp [results, Try.results34, go_sem]) rfl ⟨rfl, bq_alloc (bq_alloc (Below.refl _ _) _) _⟩
theorem power_any (n : Nat) (w : World) (hn : n ≤ 62) :
    Calls Try.prog 82 #[.int .i64 n] w fun e w' => e = .returned (.int .i64 (B.P2 n : Int)) ∧ w = w' := by
  go_enter Try.func82, Try.ntmps82
  go_wp2
  go_loop [3, 4] (fun p i => ∃ k : Nat, k ≤ n ∧ i = .int .i64 k ∧ p = .int .i64 (B.P2 k : Int)) (fun _ i => n - (intOf i).toNat)
  case atStart => exact ⟨0, Nat.zero_le _, rfl, rfl⟩
  case round =>
    obtain ⟨k, hk, rfl, rfl⟩ := hrel
    have hb : B.P2 k ≤ 4611686018427387904 := P2_bd (by omega)
    by_cases hlt : k < n
    · have hb2 : B.P2 k ≤ 2305843009213693952 := B.P2_le (b := 61) (by omega)
      go_wp2
      go_round
      case rel => exact ⟨k + 1, by omega, by go_num, by rw [B.P2_succ]; go_num⟩
      case measure => simp [intOf]; omega
    · obtain rfl : k = n := by omega
      go_wp2
      go_ret
      exact ⟨rfl, rfl⟩
theorem bytes_getElem (s : ByteArray) (k : Nat) (h : k < s.size) (h' : k < s.data.toList.length) : s[k] = s.data.toList[k] := by simp; rfl
theorem bytes_length (s : ByteArray) : s.data.toList.length = s.size := by simp
theorem half_div (x k : Nat) : x / B.P2 k / 2 = x / B.P2 (k + 1) := by rw [Nat.div_div_eq_div_mul, B.P2_succ, Nat.mul_comm]
theorem bit_any (s : ByteArray) (i : Nat) (w : World) (hs : s.size ≤ 1099511627776) (hi : i < 8 * s.size) :
    Calls Try.prog 110 #[.string s, .int .i64 i] w fun e w' => e = .returned (.int .i64 (B.fld s.data.toList i 1 : Int)) ∧ w = w' := by
  have hi8 : i / 8 < s.size := by omega
  have hc : wrap64 (s[i / 8].toNat : Int) = (s[i / 8].toNat : Int) := by
    have := s[i / 8].toNat_lt
    exact i64_id _ (by omega) (by omega)
  have HF := Lib.hid (B.fld_bit s.data.toList i (by rw [bytes_length]; omega))
  rw [← bytes_getElem s (i / 8) hi8] at HF
  have hc2 := s[i / 8].toNat_lt
  obtain ⟨c, hcc⟩ : ∃ c : Nat, c = s[i / 8].toNat := ⟨_, rfl⟩
  rw [← hcc] at hc HF hc2
  have HC := Lib.hid hcc
  have HW := Lib.hid hc
  clear hcc hc
  go_enter Try.func110, Try.ntmps110
  go_wp2
  rw [← HC.out, HW.out]
  go_loop [5, 6] (fun x k => ∃ j y : Nat, j ≤ 7 ∧ k = .int .i64 j ∧ x = .int .i64 (y : Int) ∧ Hid (i % 8 ≤ j ∧ y = c / B.P2 (j - i % 8)) ∧ y < 256) (fun _ i => 8 - (intOf i).toNat)
  case atStart => exact ⟨i % 8, c, by omega, by go_num, rfl, Lib.hid ⟨by omega, by simp [B.P2_zero]⟩, by omega⟩
  case round =>
    obtain ⟨j, y, hj, rfl, rfl, hy, hy2⟩ := hrel
    by_cases hlt : j < 7
    · go_wp2
      go_round
      case rel => exact ⟨j + 1, y / 2, by omega, by go_num, by go_num, Lib.hid ⟨by have := hy.out.1; omega, by rw [hy.out.2, half_div]; congr 2; have := hy.out.1; omega⟩, by omega⟩
      case measure => simp [intOf]; omega
    · obtain rfl : j = 7 := by omega
      go_wp2
      go_ret
      exact ⟨ret_int (by rw [HF.out, ← hy.out.2]; omega), rfl⟩
theorem and_field (x k n : Nat) (hx : x < 9223372036854775808) (hn : n ≤ 62) : bits .and .i64 ((x : Int) / 2 ^ k) (wrap64 (wrap64 (2 ^ n) - 1)) = ((x / B.P2 k % B.P2 n : Nat) : Int) := by
  rw [div_pow]
  exact and_mask _ _ (Nat.lt_of_le_of_lt (Nat.div_le_self _ _) hx) hn
def NumRel (s : ByteArray) (a b : Nat) (p i : Value) : Prop := ∃ k x : Nat, a / 8 ≤ k ∧ (k ≤ (b + 7) / 8) ∧ i = .int .i64 k ∧ p = .int .i64 (x : Int) ∧ x = B.bv ((s.data.toList.take k).drop (a / 8))
set_option maxHeartbeats 400000 in
theorem number_any (s : ByteArray) (a b : Nat) (w : World) (hs : s.size ≤ 1099511627776) (hi : b ≤ 8 * s.size) (hab : a ≤ b) (hab2 : b ≤ a + 31) :
    Calls Try.prog 109 #[.string s, .int .i64 a, .int .i64 b] w fun e w' => e = .returned (.int .i64 (B.fld s.data.toList a (b - a) : Int)) ∧ ∃ n, w' = w.drewN n := by
  go_enter Try.func109, Try.ntmps109
  go_wp2
  go_loop [7, 9] (fun p i => NumRel s a b p i) (fun _ i => s.size + 1 - (intOf i).toNat)
  case atStart => exact ⟨a / 8, 0, by omega, by omega, by go_num, rfl, (B.bv_part_nil _ _).symm⟩
  case round =>
    obtain ⟨k, x, hk0, hk, rfl, rfl, hx⟩ := hrel
    have hx2 : x < B.P2 (8 * 5) := by rw [hx]; exact B.bv_part_lt _ _ _ 5 (by omega)
    have hx3 : x < 1099511627776 := hx2
    have HX := Lib.hid hx
    clear hx hx2
    by_cases hlt : k < (b + 7) / 8
    · have hk8 : k < s.size := by omega
      have hstep := B.bv_part_snoc s.data.toList (a / 8) k hk0 (by rw [bytes_length]; omega)
      rw [← HX.out, ← bytes_getElem s k hk8] at hstep
      have HS := Lib.hid hstep
      clear hstep
      have HO := Lib.hid (or_byte x s[k] (by omega))
      go_wp2
      go_round
      case rel => exact ⟨k + 1, 256 * x + s[k].toNat, by omega, by omega, by go_num, by rw [HO.out], HS.out.symm⟩
      case measure => simp [intOf]; omega
    · obtain rfl : k = (b + 7) / 8 := by omega
      have hf := B.fld_number s.data.toList a b hab (by rw [bytes_length]; omega)
      rw [← HX.out] at hf
      have HF := Lib.hid hf
      clear hf
      have HA := Lib.hid (and_field x (8 * ((b + 7) / 8) - b) (b - a) (by omega) (by omega))
      go_wp2
      go_quiet (fail)
      go_wp2
      go_ret
      exact ⟨ret_int (by rw [HA.out, HF.out]), _, rfl⟩
end Go.Proofs.Ythlnjipefeglpaa
namespace Go.Proofs.Ythlnjipefeglpaa
open Go.RowKit
def Box (w : World) (b : Nat) (x y : Value) : Prop :=
  w.cell? ⟨b, 0, none⟩ = some x ∧ w.cell? ⟨b, 1, none⟩ = some y ∧ w.frozen? ⟨b, 0, none⟩ = false ∧ w.frozen? ⟨b, 1, none⟩ = false ∧ b < w.heap.size
section
variable {w w' : World} {b : Nat} {x y : Value}
theorem Box.below {B : Nat} (h : Box w b x y) (hb : Below B w w') (hB : b < B) : Box w' b x y :=
  ⟨(hb.cell (p := ⟨b, 0, none⟩) hB).trans h.1, (hb.cell (p := ⟨b, 1, none⟩) hB).trans h.2.1, (hb.frozen (p := ⟨b, 0, none⟩) hB).trans h.2.2.1, (hb.frozen (p := ⟨b, 1, none⟩) hB).trans h.2.2.2.1, Nat.lt_of_lt_of_le h.2.2.2.2 hb.size⟩
theorem Box.keep (h : Box w b x y) (hb : Below w.heap.size w w') : Box w' b x y := h.below hb h.2.2.2.2
theorem Box.alloc (h : Box w b x y) (o : Obj) : Box (w.alloc o) b x y := h.keep (bq_alloc (bq_refl _) o)
theorem Box.drewN (h : Box w b x y) (n : Nat) : Box (w.drewN n) b x y := h
theorem Box.drew (h : Box w b x y) : Box w.drew b x y := h
theorem box_new (w : World) (x y : Value) (t : TypeId) : Box (w.alloc (.cells #[x, y] t)) w.heap.size x y := by
  refine ⟨?_, ?_, World.frozen?_alloc_new .., World.frozen?_alloc_new .., by simp⟩
  · rw [World.cell?_alloc_new]; rfl
  · rw [World.cell?_alloc_new]; rfl
theorem Box.set0 (h : Box w b x y) (v : Value) : Box (w.setCell ⟨b, 0, none⟩ v) b v y := by
  refine ⟨World.cell?_setCell_same _ _ _ h.1, ?_, by rw [World.frozen?_setCell]; exact h.2.2.1, by rw [World.frozen?_setCell]; exact h.2.2.2.1, by simpa [World.setCell] using h.2.2.2.2⟩
  rw [World.cell?_setCell_other _ _ _ _ (by intro k; injection k; omega)]; exact h.2.1
theorem Box.set1 (h : Box w b x y) (v : Value) : Box (w.setCell ⟨b, 1, none⟩ v) b x v := by
  refine ⟨?_, World.cell?_setCell_same _ _ _ h.2.1, by rw [World.frozen?_setCell]; exact h.2.2.1, by rw [World.frozen?_setCell]; exact h.2.2.2.1, by simpa [World.setCell] using h.2.2.2.2⟩
  rw [World.cell?_setCell_other _ _ _ _ (by intro k; injection k; omega)]; exact h.1
theorem Box.far (h : Box w b x y) {a : Addr} (ha : a.block ≠ b) (v : Value) : Box (w.setCell a v) b x y := by
  refine ⟨?_, ?_, by rw [World.frozen?_setCell]; exact h.2.2.1, by rw [World.frozen?_setCell]; exact h.2.2.2.1, by simpa [World.setCell] using h.2.2.2.2⟩
  · rw [World.cell?_setCell_other _ _ _ _ (by intro k; rw [k] at ha; exact ha rfl)]; exact h.1
  · rw [World.cell?_setCell_other _ _ _ _ (by intro k; rw [k] at ha; exact ha rfl)]; exact h.2.1
end
theorem box2_kept {w w1 : World} {x y x' y' : Value} {t t' : TypeId} (hb : Below ((w.alloc (.cells #[x, y] t)).alloc (.cells #[x', y'] t')).heap.size ((w.alloc (.cells #[x, y] t)).alloc (.cells #[x', y'] t')) w1) :
    Box w1 w.heap.size x y ∧ Box w1 (w.heap.size + 1) x' y' ∧ Below w.heap.size w w1 := by
  have h2 := (box_new (w.alloc (.cells #[x, y] t)) x' y' t').keep hb
  have e : (w.alloc (.cells #[x, y] t)).heap.size = w.heap.size + 1 := by simp
  rw [e] at h2
  exact ⟨((box_new w x y t).alloc _).keep hb, h2, bq_trans (bq_alloc (bq_alloc (bq_refl w) _) _) hb⟩
end Go.Proofs.Ythlnjipefeglpaa
