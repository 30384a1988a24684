import Derived.Below
import Derived.Deep.Draws
import Derived.WalkKit
import Derived.ChangeSame
import Derived.OpenShut
import Derived.Carry
import Derived.Test.YtfaipbdkkkhacaaProg
import Derived.WalkSpells
import Derived.WalkLawsBesides
import Derived.Laws.BitsAllLaws
import Derived.Lib.Hide
import Derived.Deep.QuietTactic
import Derived.BigQuiet
import Derived.Outline
import Derived.StillTailTactics
import Derived.Deep.RegionHeld3
import Derived.Deep.DrawnRows
import Derived.Laws.IdiomStrings
import Derived.Laws.MakeOwn
import Derived.OwnWalk
import Derived.Deep.OwnRows
import Derived.Laws.AppendOwn
import Derived.KernelRfl
import Derived.Deep.DeepCutAuto
import Derived.Deep.CutBlock
import Derived.Lib.BitFns
/- Small facts on worlds in which nothing old has turned. -/
namespace Go.Proofs.Ytfaipbdkkkhacaa
open Go.RowKit
theorem bq_trans {a b c : World} (h : Below a.heap.size a b) (k : Below b.heap.size b c) : Below a.heap.size a c := h.trans (k.mono h.size)
theorem bq_alloc {a b : World} (h : Below a.heap.size a b) (o : Obj) : Below a.heap.size a (b.alloc o) := h.alloc h.size o
theorem bq_drew {a b : World} (h : Below a.heap.size a b) : Below a.heap.size a b.drew := h.drew
theorem bq_drewN {a b : World} (h : Below a.heap.size a b) (n : Nat) : Below a.heap.size a (b.drewN n) := ⟨h.os, h.tape, h.output, h.size, h.block⟩
theorem bq_drawn (w : World) {w' : World} (h : ∃ n, w' = w.drewN n) : Below w.heap.size w w' := by
  obtain ⟨n, rfl⟩ := h
  exact bq_drewN (Below.refl _ _) n
theorem bq_set {a b : World} (h : Below a.heap.size a b) (p : Addr) (hp : a.heap.size ≤ p.block) (v : Value) : Below a.heap.size a (b.setCell p v) := h.setCell hp v
theorem bq_refl (a : World) : Below a.heap.size a a := Below.refl _ _
end Go.Proofs.Ytfaipbdkkkhacaa
/- The last step of a law's proof: nothing old has turned, the results are read, the arguments read as they did. -/
namespace Go.Proofs.Ytfaipbdkkkhacaa
open Go.RowKit Go.WideShapes Go.ChangeShapes
theorem post_kept {H : Type} {enc : TypeId × Value → H} {P : Program} {f : Func} {s : ChangeSpec} {apart fresh handsOn : Bool} {W W' : World} {args : Array Value} {v : Value} {ds gs : List (DataW H)} {before pa pv : List MemPlace}
    (hW : DataW.Whole enc P f.params.toList s.vars apart W args.toList ds gs before)
    (hres : ∀ (b : Nat) (sp : Nat → Bool) (hd : Bool), DataW.TrodAll enc P W' b sp hd f.resultTypes.toList (v.resultList f.resultTypes.size) (s.fn H (ds ++ gs)).results [])
    (hargs : ∀ sp : Nat → Bool, (∀ p ∈ before, sp p.block = true) → DataW.TrodAll enc P W' 0 sp true f.params.toList args.toList (s.fn H (ds ++ gs)).args pa)
    (hvars : ∀ sp : Nat → Bool, (∀ p ∈ before, sp p.block = true) → DataW.TrodVars enc P W' sp s.vars (s.fn H (ds ++ gs)).vars pv)
    (hps : before = pa ++ pv) (hb : Below W.heap.size W W') : s.post enc P f apart fresh handsOn false W args v W' := by
  have old : ∀ p ∈ before, (fun b => decide (b < W.heap.size)) p.block = true := fun p hp => by simpa using hW.lt p hp
  refine ⟨ds, gs, before, [], pa, pv, hW, hres _ _ _, hargs _ old, hvars _ old, World.keptBut_mono (fun p hp => ⟨hp, ?_⟩) (hb.frame (· ∈ before)), fun h => by cases h⟩
  rw [hps] at hp
  exact Or.inr (List.mem_append.1 hp)
theorem bd64 {a : Int} (h : (Lit.int .i64 a).wf = true) : -9223372036854775808 ≤ a ∧ a ≤ 9223372036854775807 := bounds_i64 h
theorem bd32 {a : Int} (h : (Lit.int .i32 a).wf = true) : -2147483648 ≤ a ∧ a ≤ 2147483647 := bounds_i32 h
end Go.Proofs.Ytfaipbdkkkhacaa
/- The last step of a law's proof, whatever its arguments are: nothing old has turned, so each argument reads as it did. -/
namespace Go.Proofs.Ytfaipbdkkkhacaa
open Go.RowKit Go.WideShapes Go.ChangeShapes
theorem trodAll_below {H : Type} {enc : TypeId × Value → H} {P : Program} (hl : laidOutB P = true) {W W' : World} (hb : Below W.heap.size W W') :
    ∀ (ts : List TypeId) (vs : List Value) (ds : List (DataW H)) (ps : List MemPlace), (∀ t ∈ ts, P.readableRec t = true ∧ t < P.types.size) → (∀ x ∈ ps, x.block < W.heap.size) →
      DataW.TrodAll enc P W 0 (fun _ => true) true ts vs ds ps → DataW.TrodAll enc P W' 0 (fun b => decide (b < W.heap.size)) true ts vs ds ps
  | [], vs, ds, ps, _, _, h => by
    obtain ⟨rfl, rfl, rfl⟩ := trodAll_nil h
    exact trodAll_mk0
  | t :: ts, vs, ds, ps, hr, hlt, h => by
    obtain ⟨v, vs', d, ds', p, q, rfl, rfl, rfl, h0, h1⟩ := trodAll_cons h
    exact trodAll_cons_mk (Below.trod hl (hr t (by simp)).1 (hr t (by simp)).2 h0 hb (fun x hx => hlt x (by simp [hx]))) (trodAll_below hl hb ts vs' ds' q (fun u hu => hr u (by simp [hu])) (fun x hx => hlt x (by simp [hx])) h1)
theorem post_law {H : Type} {enc : TypeId × Value → H} {P : Program} {f : Func} {s : ChangeSpec} {apart fresh handsOn : Bool} {W W' : World} {args : Array Value} {v : Value} {ds gs : List (DataW H)} {before p : List MemPlace}
    (hl : laidOutB P = true) (hr : ∀ t ∈ f.params.toList, P.readableRec t = true ∧ t < P.types.size)
    (hW : DataW.Whole enc P f.params.toList s.vars apart W args.toList ds gs before) (hA : DataW.TrodAll enc P W 0 (fun _ => true) true f.params.toList args.toList ds p) (hp : before = p)
    (hres : ∀ (b : Nat) (sp : Nat → Bool) (hd : Bool), DataW.TrodAll enc P W' b sp hd f.resultTypes.toList (v.resultList f.resultTypes.size) (s.fn H (ds ++ gs)).results [])
    (hargs : (s.fn H (ds ++ gs)).args = ds) (hvars : ∀ sp : Nat → Bool, DataW.TrodVars enc P W' sp s.vars (s.fn H (ds ++ gs)).vars [])
    (hb : Below W.heap.size W W') : s.post enc P f apart fresh handsOn false W args v W' := by
  subst hp
  refine ⟨ds, gs, before, [], before, [], hW, hres _ _ _, ?_, hvars _, World.keptBut_mono (fun q hq => ⟨hq, Or.inr (Or.inl hq)⟩) (hb.frame (· ∈ before)), fun h => by cases h⟩
  rw [hargs]
  exact trodAll_below hl hb _ _ _ _ hr (fun x hx => hW.lt x hx) hA
end Go.Proofs.Ytfaipbdkkkhacaa
/- Plain facts on powers of two, bytes as a number (the first byte the highest), and fields of their bits. -/
namespace Go.Proofs.Ytfaipbdkkkhacaa.B

def P2 (n : Nat) : Nat := 2 ^ n
theorem P2_zero : P2 0 = 1 := rfl
theorem P2_succ (n : Nat) : P2 (n + 1) = 2 * P2 n := by unfold P2; rw [Nat.pow_succ]; omega
theorem P2_pos (n : Nat) : 0 < P2 n := Nat.two_pow_pos n
theorem P2_add (a b : Nat) : P2 (a + b) = P2 a * P2 b := Nat.pow_add 2 a b
theorem P2_le {a b : Nat} (h : a ≤ b) : P2 a ≤ P2 b := Nat.pow_le_pow_right (by omega) h
theorem P2_lt {a b : Nat} (h : a < b) : P2 a < P2 b := Nat.pow_lt_pow_right (by omega) h
theorem P2_8 : P2 8 = 256 := rfl
theorem P2_dvd {a b : Nat} (h : a ≤ b) : P2 a ∣ P2 b := Nat.pow_dvd_pow 2 h
theorem P2_sub {a b : Nat} (h : a ≤ b) : P2 b = P2 a * P2 (b - a) := by rw [← P2_add]; congr 1; omega
theorem P2_byte (k : Nat) : P2 (8 * (k + 1)) = 256 * P2 (8 * k) := by rw [show 8 * (k + 1) = 8 + 8 * k by omega, P2_add, P2_8]

theorem div_div (x a b : Nat) : x / P2 a / P2 b = x / P2 (a + b) := by rw [Nat.div_div_eq_div_mul, P2_add]
theorem mod_div (x a b : Nat) : x % P2 (a + b) / P2 a = x / P2 a % P2 b := by rw [P2_add, Nat.mod_mul_right_div_self]
theorem mod_mod {n a : Nat} (x : Nat) (h : n ≤ a) : x % P2 a % P2 n = x % P2 n := Nat.mod_mod_of_dvd x (P2_dvd h)
theorem mod_split (x n m : Nat) : x % P2 (n + m) = x / P2 m % P2 n * P2 m + x % P2 m := by
  rw [Nat.add_comm n m, P2_add, Nat.mod_mul, Nat.mul_comm (P2 m), Nat.add_comm]
theorem div_lt {x a b : Nat} (h : x < P2 (a + b)) : x / P2 a < P2 b := by
  rw [Nat.div_lt_iff_lt_mul (P2_pos a), Nat.mul_comm, ← P2_add]; exact h
theorem mul_add_div (x y m : Nat) (h : y < P2 m) : (x * P2 m + y) / P2 m = x := by
  rw [Nat.mul_comm, Nat.mul_add_div (P2_pos m), Nat.div_eq_of_lt h]; omega
theorem mul_add_mod (x y m : Nat) (h : y < P2 m) : (x * P2 m + y) % P2 m = y := by
  rw [Nat.mul_comm, Nat.mul_add_mod, Nat.mod_eq_of_lt h]

/-- bytes as a number -/
def bv (l : List UInt8) : Nat := l.foldl (fun a b => 256 * a + b.toNat) 0
theorem bv_nil : bv [] = 0 := rfl
theorem bv_snoc (l : List UInt8) (b : UInt8) : bv (l ++ [b]) = 256 * bv l + b.toNat := by simp [bv]
theorem snoc_induct {p : List UInt8 → Prop} (h0 : p []) (h1 : ∀ l b, p l → p (l ++ [b])) (l : List UInt8) : p l := by
  have H : ∀ n (l : List UInt8), l.length = n → p l := by
    intro n
    induction n with
    | zero => intro l h; rw [List.length_eq_zero_iff.1 h]; exact h0
    | succ n ih =>
      intro l h
      have hne : l ≠ [] := by intro e; rw [e] at h; simp at h
      rw [← List.dropLast_concat_getLast hne]
      exact h1 _ _ (ih _ (by simp [h]))
  exact H _ l rfl
theorem bv_append (a b : List UInt8) : bv (a ++ b) = bv a * P2 (8 * b.length) + bv b := by
  induction b using snoc_induct with
  | h0 => simp [bv_nil, P2_zero]
  | h1 l c ih =>
    rw [← List.append_assoc, bv_snoc, bv_snoc, ih, List.length_append, List.length_singleton, P2_byte, Nat.mul_add, Nat.mul_left_comm, Nat.add_assoc]
theorem bv_lt (l : List UInt8) : bv l < P2 (8 * l.length) := by
  induction l using snoc_induct with
  | h0 => simp [bv_nil, P2_zero]
  | h1 l c ih =>
    rw [bv_snoc, List.length_append, List.length_singleton, P2_byte]
    have := c.toNat_lt
    omega
theorem bv_take (l : List UInt8) (k : Nat) : bv (l.take k) = bv l / P2 (8 * (l.length - k)) := by
  have h := bv_append (l.take k) (l.drop k)
  rw [List.take_append_drop, List.length_drop] at h
  have hl := bv_lt (l.drop k)
  rw [List.length_drop] at hl
  rw [h, mul_add_div _ _ _ hl]
theorem bv_drop (l : List UInt8) (k : Nat) : bv (l.drop k) = bv l % P2 (8 * (l.length - k)) := by
  have h := bv_append (l.take k) (l.drop k)
  rw [List.take_append_drop, List.length_drop] at h
  have hl := bv_lt (l.drop k)
  rw [List.length_drop] at hl
  rw [h, mul_add_mod _ _ _ hl]

/-- the bytes of a number, so many -/
def enc : Nat → Nat → List UInt8
  | 0, _ => []
  | m + 1, x => enc m (x / 256) ++ [UInt8.ofNat (x % 256)]
theorem enc_len (m x : Nat) : (enc m x).length = m := by
  induction m generalizing x with
  | zero => rfl
  | succ m ih => simp [enc, ih]
theorem ofNat_toNat (x : Nat) (h : x < 256) : (UInt8.ofNat x).toNat = x := by simp; omega
theorem enc_snoc (m : Nat) (x : Nat) (b : UInt8) : enc (m + 1) (256 * x + b.toNat) = enc m x ++ [b] := by
  have := b.toNat_lt
  rw [enc, show (256 * x + b.toNat) / 256 = x by omega, show (256 * x + b.toNat) % 256 = b.toNat by omega]
  simp
theorem enc_bv (l : List UInt8) : enc l.length (bv l) = l := by
  induction l using snoc_induct with
  | h0 => rfl
  | h1 l c ih => rw [bv_snoc, List.length_append, List.length_singleton, enc_snoc, ih]
theorem bv_enc (m x : Nat) (h : x < P2 (8 * m)) : bv (enc m x) = x := by
  induction m generalizing x with
  | zero => rw [Nat.mul_zero, P2_zero] at h; simp [enc, bv_nil]; omega
  | succ m ih =>
    rw [P2_byte] at h
    rw [enc, bv_snoc, ih _ (by omega), ofNat_toNat _ (Nat.mod_lt _ (by omega))]
    omega
theorem bv_inj {a b : List UInt8} (hl : a.length = b.length) (h : bv a = bv b) : a = b := by
  rw [← enc_bv a, ← enc_bv b, hl, h]
theorem enc_append (a b x y : Nat) (h : y < P2 (8 * b)) : enc (a + b) (x * P2 (8 * b) + y) = enc a x ++ enc b y := by
  induction b generalizing y with
  | zero => rw [Nat.mul_zero, P2_zero] at h; simp [enc, P2_zero]; congr 1; omega
  | succ b ih =>
    rw [P2_byte] at h
    rw [P2_byte, show a + (b + 1) = a + b + 1 from rfl, enc, enc]
    have e1 : (x * (256 * P2 (8 * b)) + y) / 256 = x * P2 (8 * b) + y / 256 := by
      rw [Nat.mul_left_comm, Nat.mul_add_div (by omega)]
    have e2 : (x * (256 * P2 (8 * b)) + y) % 256 = y % 256 := by
      rw [Nat.mul_left_comm, Nat.mul_add_mod]
    rw [e1, e2, ih _ (by omega), List.append_assoc]

/-- the field of n bits from bit p on -/
def fld (l : List UInt8) (p n : Nat) : Nat := bv l / P2 (8 * l.length - (p + n)) % P2 n
theorem fld_lt (l : List UInt8) (p n : Nat) : fld l p n < P2 n := Nat.mod_lt _ (P2_pos n)
theorem fld_zero (l : List UInt8) (p : Nat) : fld l p 0 = 0 := by unfold fld; rw [P2_zero, Nat.mod_one]
theorem fld_split (l : List UInt8) (p n m : Nat) (h : p + n + m ≤ 8 * l.length) : fld l p (n + m) = fld l p n * P2 m + fld l (p + n) m := by
  unfold fld
  rw [mod_split, div_div]
  rw [show 8 * l.length - (p + (n + m)) + m = 8 * l.length - (p + n) by omega, show 8 * l.length - (p + n + m) = 8 * l.length - (p + (n + m)) by omega]
theorem fld_number (l : List UInt8) (a b : Nat) (hab : a ≤ b) (hb : b ≤ 8 * l.length) :
    bv ((l.take ((b + 7) / 8)).drop (a / 8)) / P2 (8 * ((b + 7) / 8) - b) % P2 (b - a) = fld l a (b - a) := by
  obtain ⟨e, he⟩ : ∃ e, e = (b + 7) / 8 := ⟨_, rfl⟩
  obtain ⟨f, hf⟩ : ∃ f, f = a / 8 := ⟨_, rfl⟩
  rw [← he, ← hf, bv_drop, bv_take, List.length_take, Nat.min_eq_left (by omega)]
  obtain ⟨d, hd⟩ : ∃ d, d = 8 * e - b := ⟨_, rfl⟩
  rw [← hd, show 8 * (e - f) = d + (8 * (e - f) - d) by omega, mod_div, mod_mod _ (by omega), div_div]
  unfold fld
  rw [show 8 * (l.length - e) + d = 8 * l.length - (a + (b - a)) by omega]
theorem take_drop_snoc (l : List UInt8) (f i : Nat) (hf : f ≤ i) (hi : i < l.length) : (l.take (i + 1)).drop f = (l.take i).drop f ++ [l[i]] := by
  rw [List.take_succ_eq_append_getElem hi, List.drop_append_of_le_length (by simp; omega)]
theorem bv_part_snoc (l : List UInt8) (f i : Nat) (hf : f ≤ i) (hi : i < l.length) : bv ((l.take (i + 1)).drop f) = 256 * bv ((l.take i).drop f) + l[i].toNat := by
  rw [take_drop_snoc l f i hf hi, bv_snoc]
theorem bv_part_nil (l : List UInt8) (f : Nat) : bv ((l.take f).drop f) = 0 := by
  rw [List.drop_eq_nil_of_le (by simp; omega)]; rfl
theorem bv_part_lt (l : List UInt8) (f i k : Nat) (h : i ≤ f + k) : bv ((l.take i).drop f) < P2 (8 * k) := by
  refine Nat.lt_of_lt_of_le (bv_lt _) (P2_le ?_)
  simp only [List.length_drop, List.length_take]
  omega
theorem fld_bit (l : List UInt8) (i : Nat) (h : i / 8 < l.length) : fld l i 1 = l[i / 8].toNat / P2 (7 - i % 8) % 2 := by
  have hk := bv_take l (i / 8 + 1)
  rw [List.take_succ_eq_append_getElem h, bv_snoc] at hk
  unfold fld
  rw [show 8 * l.length - (i + 1) = 8 * (l.length - (i / 8 + 1)) + (7 - i % 8) by omega, ← div_div, ← hk]
  have e : 256 = P2 (7 - i % 8) * P2 (i % 8 + 1) := by rw [← P2_add, show 7 - i % 8 + (i % 8 + 1) = 8 by omega, P2_8]
  rw [e, Nat.mul_assoc, Nat.mul_add_div (P2_pos _), P2_succ]
  show _ % 2 = _
  rw [Nat.mul_assoc, Nat.mul_add_mod]
theorem fld_byte (l : List UInt8) (k : Nat) (h : k < l.length) : fld l (8 * k) 8 = l[k].toNat := by
  have hk := bv_take l (k + 1)
  rw [List.take_succ_eq_append_getElem h, bv_snoc] at hk
  unfold fld
  rw [show 8 * l.length - (8 * k + 8) = 8 * (l.length - (k + 1)) by omega, ← hk, P2_8]
  have := l[k].toNat_lt
  omega
theorem fld_all (l : List UInt8) (p n k : Nat) (hk : k = 8 * l.length - (p + n)) : fld l p n = bv l / P2 k % P2 n := by rw [hk]; rfl

/-- bytes as a number, the first byte the lowest -/
def lv : List UInt8 → Nat
  | [] => 0
  | b :: l => b.toNat + 256 * lv l
theorem lv_snoc (l : List UInt8) (b : UInt8) : lv (l ++ [b]) = lv l + b.toNat * P2 (8 * l.length) := by
  induction l with
  | nil => simp [lv, P2_zero]
  | cons c l ih =>
    rw [List.cons_append, lv, ih, lv, List.length_cons, P2_byte, Nat.mul_add, Nat.mul_left_comm]
    omega
theorem lv_lt (l : List UInt8) : lv l < P2 (8 * l.length) := by
  induction l with
  | nil => simp [lv, P2_zero]
  | cons c l ih =>
    rw [lv, List.length_cons, P2_byte]
    have := c.toNat_lt
    omega
theorem lv_take_succ (l : List UInt8) (k : Nat) (h : k < l.length) : lv (l.take (k + 1)) = lv (l.take k) + l[k].toNat * P2 (8 * k) := by
  rw [List.take_succ_eq_append_getElem h, lv_snoc, List.length_take, Nat.min_eq_left (by omega)]
theorem lv_take_lt (l : List UInt8) (k : Nat) : lv (l.take k) < P2 (8 * k) := by
  refine Nat.lt_of_lt_of_le (lv_lt _) (P2_le ?_)
  rw [List.length_take]; omega
theorem lv_take_all (l : List UInt8) (k : Nat) (h : l.length ≤ k) : lv (l.take k) = lv l := by rw [List.take_of_length_le h]
end Go.Proofs.Ytfaipbdkkkhacaa.B
/- Layer 2: the small tests, a power, a bit, a number of bits. -/
namespace Go.Proofs.Ytfaipbdkkkhacaa
open Go.RowKit
set_option linter.unusedVariables false

theorem ret_int {k : IntKind} {a b : Int} (h : a = b) : Ending.returned (.int k a) = .returned (.int k b) := by rw [h]
theorem ret_bool {a b : Bool} (h : a = b) : Ending.returned (.bool a) = .returned (.bool b) := by rw [h]
theorem i64_id (x : Int) (h0 : -9223372036854775808 ≤ x) (h1 : x ≤ 9223372036854775807) : wrap64 x = x := by unfold wrap64; omega

theorem i64_wrap (x : Int) (h0 : -9223372036854775808 ≤ x) (h1 : x ≤ 9223372036854775807) : IntKind.i64.wrap x = x := by rw [IntKind.wrap_i64]; omega

theorem ofInt_i64 (a : Nat) (ha : a < 9223372036854775808) : (BitVec.ofInt 64 (a : Int)).toNat = a := by
  rw [BitVec.ofInt_natCast, BitVec.toNat_ofNat]; exact Nat.mod_eq_of_lt (by omega)
theorem i64_or_nat (a b : Nat) (ha : a < 9223372036854775808) (hb : b < 9223372036854775808) : bits .or .i64 (a : Int) (b : Int) = ((a ||| b : Nat) : Int) := by
  have hx : a ||| b < 2 ^ 63 := Nat.or_lt_two_pow (by omega) (by omega)
  show IntKind.i64.wrap ((BitVec.ofInt 64 (a : Int) ||| BitVec.ofInt 64 (b : Int)).toNat : Int) = _
  rw [BitVec.toNat_or, ofInt_i64 a ha, ofInt_i64 b hb, IntKind.wrap_i64]
  omega
theorem i64_and_nat (a b : Nat) (ha : a < 9223372036854775808) (hb : b < 9223372036854775808) : bits .and .i64 (a : Int) (b : Int) = ((a &&& b : Nat) : Int) := by
  have hx : a &&& b < 2 ^ 63 := Nat.and_lt_two_pow _ (by omega)
  show IntKind.i64.wrap ((BitVec.ofInt 64 (a : Int) &&& BitVec.ofInt 64 (b : Int)).toNat : Int) = _
  rw [BitVec.toNat_and, ofInt_i64 a ha, ofInt_i64 b hb, IntKind.wrap_i64]
  omega
theorem P2_cast (n : Nat) : (2 : Int) ^ n = (B.P2 n : Int) := by unfold B.P2; push_cast; rfl
theorem P2_bd {n : Nat} (h : n ≤ 62) : B.P2 n ≤ 4611686018427387904 := B.P2_le (b := 62) h
theorem or_join (x y n : Nat) (hy : y < B.P2 n) (h : x * B.P2 n + y < 9223372036854775808) : bits .or .i64 ((x * B.P2 n : Nat) : Int) (y : Int) = ((x * B.P2 n + y : Nat) : Int) := by
  have hj := nat_join n (x * B.P2 n) y (Nat.mul_mod_left _ _) hy
  rw [i64_or_nat _ _ (by omega) (by omega), hj]
theorem or_byte (x : Nat) (c : UInt8) (h : x ≤ 36028797018963000) : bits .or .i64 ((x : Int) * 256) (wrap64 (c.toNat : Int)) = ((256 * x + c.toNat : Nat) : Int) := by
  have hc := c.toNat_lt
  rw [i64_id _ (by omega) (by omega)]
  have := or_join x c.toNat 8 (by rw [B.P2_8]; omega) (by rw [B.P2_8]; omega)
  rw [B.P2_8] at this
  rw [show (x : Int) * 256 = ((x * 256 : Nat) : Int) by omega, this, Nat.mul_comm]
theorem and_mask (x n : Nat) (hx : x < 9223372036854775808) (hn : n ≤ 62) : bits .and .i64 (x : Int) (wrap64 (wrap64 (2 ^ n) - 1)) = ((x % B.P2 n : Nat) : Int) := by
  have h1 := B.P2_pos n
  have h2 := P2_bd hn
  rw [P2_cast, i64_id (B.P2 n : Int) (by omega) (by omega), i64_id ((B.P2 n : Int) - 1) (by omega) (by omega), show (B.P2 n : Int) - 1 = ((B.P2 n - 1 : Nat) : Int) by omega, i64_and_nat _ _ hx (by omega)]
  unfold B.P2
  rw [Nat.and_two_pow_sub_one_eq_mod]
theorem div_pow (x k : Nat) : (x : Int) / 2 ^ k = ((x / B.P2 k : Nat) : Int) := by rw [P2_cast]; push_cast; rfl

theorem isfield_any (n : Int) (w : World) :
    Calls Try.prog 76 #[.int .i64 n] w fun e w' => e = .returned (.bool (decide (0 ≤ n) && decide (n ≤ 31))) ∧ w = w' := by
  go_enter Try.func76, Try.ntmps76
  go_wp2
  all_goals (go_ret; exact ⟨ret_bool (by simp; try omega), rfl⟩)
theorem isright_any (s : ByteArray) (a : Int) (w : World) (hs : s.size ≤ 1099511627776) :
    Calls Try.prog 70 #[.agg #[.string s, .int .i64 a]] w fun e w' => e = .returned (.bool (decide (0 ≤ a) && decide (a ≤ 8 * s.size))) ∧ Below w.heap.size w w' := by
  go_enter Try.func70, Try.ntmps70
  go_wp2
  all_goals (go_ret; exact ⟨ret_bool (by simp; try omega), bq_alloc (Below.refl _ _) _⟩)
theorem refright_any (s : ByteArray) (a : Int) (w : World) (hs : s.size ≤ 1099511627776) :
    Calls Try.prog 72 #[.agg #[.string s, .int .i64 a]] w fun e w' => e = .returned (.bool (decide (0 ≤ a) && decide (a ≤ 8 * s.size))) ∧ Below w.heap.size w w' := by
  go_enter Try.func72, Try.ntmps72
  go_wp2
  all_goals (go_ret; exact ⟨ret_bool (by simp; try omega), bq_alloc (Below.refl _ _) _⟩)
theorem putbytes_any (s t : ByteArray) (a : Int) (w : World) (hs : s.size ≤ 1099511627776) (ht : t.size ≤ 1099511627776) :
    Calls Try.prog 41 #[.agg #[.string s, .int .i64 a], .string t] w fun e w' => e = .returned (.agg #[.string (s ++ t), .int .i64 0]) ∧ Below w.heap.size w w' := by
  go_enter Try.func41, Try.ntmps41
  go_wp2
  exact bodyPost_ret (v := .agg #[.string (s ++ t), .int .i64 0]) (by simp [results, Try.results41, go_sem]) rfl ⟨rfl, bq_alloc (bq_alloc (Below.refl _ _) _) _⟩
theorem power_any (n : Nat) (w : World) (hn : n ≤ 62) :
    Calls Try.prog 79 #[.int .i64 n] w fun e w' => e = .returned (.int .i64 (B.P2 n : Int)) ∧ w = w' := by
  go_enter Try.func79, Try.ntmps79
  go_wp2
  go_loop [3, 4] (fun p i => ∃ k : Nat, k ≤ n ∧ i = .int .i64 k ∧ p = .int .i64 (B.P2 k : Int)) (fun _ i => n - (intOf i).toNat)
  case atStart => exact ⟨0, Nat.zero_le _, rfl, rfl⟩
  case round =>
    obtain ⟨k, hk, rfl, rfl⟩ := hrel
    have hb : B.P2 k ≤ 4611686018427387904 := P2_bd (by omega)
    by_cases hlt : k < n
    · have hb2 : B.P2 k ≤ 2305843009213693952 := B.P2_le (b := 61) (by omega)
      go_wp2
      go_round
      case rel => exact ⟨k + 1, by omega, by go_num, by rw [B.P2_succ]; go_num⟩
      case measure => simp [intOf]; omega
    · obtain rfl : k = n := by omega
      go_wp2
      go_ret
      exact ⟨rfl, rfl⟩

theorem bytes_getElem (s : ByteArray) (k : Nat) (h : k < s.size) (h' : k < s.data.toList.length) : s[k] = s.data.toList[k] := by simp; rfl
theorem bytes_length (s : ByteArray) : s.data.toList.length = s.size := by simp
theorem half_div (x k : Nat) : x / B.P2 k / 2 = x / B.P2 (k + 1) := by rw [Nat.div_div_eq_div_mul, B.P2_succ, Nat.mul_comm]

theorem bit_any (s : ByteArray) (i : Nat) (w : World) (hs : s.size ≤ 1099511627776) (hi : i < 8 * s.size) :
    Calls Try.prog 84 #[.string s, .int .i64 i] w fun e w' => e = .returned (.int .i64 (B.fld s.data.toList i 1 : Int)) ∧ w = w' := by
  have hi8 : i / 8 < s.size := by omega
  have hc : wrap64 (s[i / 8].toNat : Int) = (s[i / 8].toNat : Int) := by
    have := s[i / 8].toNat_lt
    exact i64_id _ (by omega) (by omega)
  have HF := Lib.hid (B.fld_bit s.data.toList i (by rw [bytes_length]; omega))
  rw [← bytes_getElem s (i / 8) hi8] at HF
  have hc2 := s[i / 8].toNat_lt
  obtain ⟨c, hcc⟩ : ∃ c : Nat, c = s[i / 8].toNat := ⟨_, rfl⟩
  rw [← hcc] at hc HF hc2
  have HC := Lib.hid hcc
  have HW := Lib.hid hc
  clear hcc hc
  go_enter Try.func84, Try.ntmps84
  go_wp2
  rw [← HC.out, HW.out]
  go_loop [5, 6] (fun x k => ∃ j y : Nat, j ≤ 7 ∧ k = .int .i64 j ∧ x = .int .i64 (y : Int) ∧ Hid (i % 8 ≤ j ∧ y = c / B.P2 (j - i % 8)) ∧ y < 256) (fun _ i => 8 - (intOf i).toNat)
  case atStart => exact ⟨i % 8, c, by omega, by go_num, rfl, Lib.hid ⟨by omega, by simp [B.P2_zero]⟩, by omega⟩
  case round =>
    obtain ⟨j, y, hj, rfl, rfl, hy, hy2⟩ := hrel
    by_cases hlt : j < 7
    · go_wp2
      go_round
      case rel => exact ⟨j + 1, y / 2, by omega, by go_num, by go_num, Lib.hid ⟨by have := hy.out.1; omega, by rw [hy.out.2, half_div]; congr 2; have := hy.out.1; omega⟩, by omega⟩
      case measure => simp [intOf]; omega
    · obtain rfl : j = 7 := by omega
      go_wp2
      go_ret
      exact ⟨ret_int (by rw [HF.out, ← hy.out.2]; omega), rfl⟩

theorem and_field (x k n : Nat) (hx : x < 9223372036854775808) (hn : n ≤ 62) : bits .and .i64 ((x : Int) / 2 ^ k) (wrap64 (wrap64 (2 ^ n) - 1)) = ((x / B.P2 k % B.P2 n : Nat) : Int) := by
  rw [div_pow]
  exact and_mask _ _ (Nat.lt_of_le_of_lt (Nat.div_le_self _ _) hx) hn

def NumRel (s : ByteArray) (a b : Nat) (p i : Value) : Prop := ∃ k x : Nat, a / 8 ≤ k ∧ (k ≤ (b + 7) / 8) ∧ i = .int .i64 k ∧ p = .int .i64 (x : Int) ∧ x = B.bv ((s.data.toList.take k).drop (a / 8))
set_option maxHeartbeats 400000 in
theorem number_any (s : ByteArray) (a b : Nat) (w : World) (hs : s.size ≤ 1099511627776) (hi : b ≤ 8 * s.size) (hab : a ≤ b) (hab2 : b ≤ a + 31) :
    Calls Try.prog 82 #[.string s, .int .i64 a, .int .i64 b] w fun e w' => e = .returned (.int .i64 (B.fld s.data.toList a (b - a) : Int)) ∧ ∃ n, w' = w.drewN n := by
  go_enter Try.func82, Try.ntmps82
  go_wp2
  go_loop [7, 9] (fun p i => NumRel s a b p i) (fun _ i => s.size + 1 - (intOf i).toNat)
  case atStart => exact ⟨a / 8, 0, by omega, by omega, by go_num, rfl, (B.bv_part_nil _ _).symm⟩
  case round =>
    obtain ⟨k, x, hk0, hk, rfl, rfl, hx⟩ := hrel
    have hx2 : x < B.P2 (8 * 5) := by rw [hx]; exact B.bv_part_lt _ _ _ 5 (by omega)
    have hx3 : x < 1099511627776 := hx2
    have HX := Lib.hid hx
    clear hx hx2
    by_cases hlt : k < (b + 7) / 8
    · have hk8 : k < s.size := by omega
      have hstep := B.bv_part_snoc s.data.toList (a / 8) k hk0 (by rw [bytes_length]; omega)
      rw [← HX.out, ← bytes_getElem s k hk8] at hstep
      have HS := Lib.hid hstep
      clear hstep
      have HO := Lib.hid (or_byte x s[k] (by omega))
      go_wp2
      go_round
      case rel => exact ⟨k + 1, 256 * x + s[k].toNat, by omega, by omega, by go_num, by rw [HO.out], HS.out.symm⟩
      case measure => simp [intOf]; omega
    · obtain rfl : k = (b + 7) / 8 := by omega
      have hf := B.fld_number s.data.toList a b hab (by rw [bytes_length]; omega)
      rw [← HX.out] at hf
      have HF := Lib.hid hf
      clear hf
      have HA := Lib.hid (and_field x (8 * ((b + 7) / 8) - b) (b - a) (by omega) (by omega))
      go_wp2
      go_quiet (fail)
      go_wp2
      go_ret
      exact ⟨ret_int (by rw [HA.out, HF.out]), _, rfl⟩
end Go.Proofs.Ytfaipbdkkkhacaa
/- Boxes of two cells: a struct of two fields in memory. -/
namespace Go.Proofs.Ytfaipbdkkkhacaa
open Go.RowKit

/-- block b holds two cells, neither frozen -/
def Box (w : World) (b : Nat) (x y : Value) : Prop :=
  w.cell? ⟨b, 0, none⟩ = some x ∧ w.cell? ⟨b, 1, none⟩ = some y ∧ w.frozen? ⟨b, 0, none⟩ = false ∧ w.frozen? ⟨b, 1, none⟩ = false ∧ b < w.heap.size
section
variable {w w' : World} {b : Nat} {x y : Value}
theorem Box.below {B : Nat} (h : Box w b x y) (hb : Below B w w') (hB : b < B) : Box w' b x y :=
  ⟨(hb.cell (p := ⟨b, 0, none⟩) hB).trans h.1, (hb.cell (p := ⟨b, 1, none⟩) hB).trans h.2.1, (hb.frozen (p := ⟨b, 0, none⟩) hB).trans h.2.2.1, (hb.frozen (p := ⟨b, 1, none⟩) hB).trans h.2.2.2.1, Nat.lt_of_lt_of_le h.2.2.2.2 hb.size⟩
theorem Box.keep (h : Box w b x y) (hb : Below w.heap.size w w') : Box w' b x y := h.below hb h.2.2.2.2
theorem Box.alloc (h : Box w b x y) (o : Obj) : Box (w.alloc o) b x y := h.keep (bq_alloc (bq_refl _) o)
theorem Box.drewN (h : Box w b x y) (n : Nat) : Box (w.drewN n) b x y := h
theorem Box.drew (h : Box w b x y) : Box w.drew b x y := h
theorem box_new (w : World) (x y : Value) (t : TypeId) : Box (w.alloc (.cells #[x, y] t)) w.heap.size x y := by
  refine ⟨?_, ?_, World.frozen?_alloc_new .., World.frozen?_alloc_new .., by simp⟩
  · rw [World.cell?_alloc_new]; rfl
  · rw [World.cell?_alloc_new]; rfl
theorem Box.set0 (h : Box w b x y) (v : Value) : Box (w.setCell ⟨b, 0, none⟩ v) b v y := by
  refine ⟨World.cell?_setCell_same _ _ _ h.1, ?_, by rw [World.frozen?_setCell]; exact h.2.2.1, by rw [World.frozen?_setCell]; exact h.2.2.2.1, by simpa [World.setCell] using h.2.2.2.2⟩
  rw [World.cell?_setCell_other _ _ _ _ (by intro k; injection k; omega)]; exact h.2.1
theorem Box.set1 (h : Box w b x y) (v : Value) : Box (w.setCell ⟨b, 1, none⟩ v) b x v := by
  refine ⟨?_, World.cell?_setCell_same _ _ _ h.2.1, by rw [World.frozen?_setCell]; exact h.2.2.1, by rw [World.frozen?_setCell]; exact h.2.2.2.1, by simpa [World.setCell] using h.2.2.2.2⟩
  rw [World.cell?_setCell_other _ _ _ _ (by intro k; injection k; omega)]; exact h.1
theorem Box.far (h : Box w b x y) {a : Addr} (ha : a.block ≠ b) (v : Value) : Box (w.setCell a v) b x y := by
  refine ⟨?_, ?_, by rw [World.frozen?_setCell]; exact h.2.2.1, by rw [World.frozen?_setCell]; exact h.2.2.2.1, by simpa [World.setCell] using h.2.2.2.2⟩
  · rw [World.cell?_setCell_other _ _ _ _ (by intro k; rw [k] at ha; exact ha rfl)]; exact h.1
  · rw [World.cell?_setCell_other _ _ _ _ (by intro k; rw [k] at ha; exact ha rfl)]; exact h.2.1
end
/-- one box, and what came behind it -/
theorem box1_kept {w w1 : World} {x y : Value} {t : TypeId} (hb : Below (w.alloc (.cells #[x, y] t)).heap.size (w.alloc (.cells #[x, y] t)) w1) : Box w1 w.heap.size x y ∧ Below w.heap.size w w1 :=
  ⟨(box_new w x y t).keep hb, bq_trans (bq_alloc (bq_refl w) _) hb⟩
/-- two boxes, and what came behind them -/
theorem box2_kept {w w1 : World} {x y x' y' : Value} {t t' : TypeId} (hb : Below ((w.alloc (.cells #[x, y] t)).alloc (.cells #[x', y'] t')).heap.size ((w.alloc (.cells #[x, y] t)).alloc (.cells #[x', y'] t')) w1) :
    Box w1 w.heap.size x y ∧ Box w1 (w.heap.size + 1) x' y' ∧ Below w.heap.size w w1 := by
  have h2 := (box_new (w.alloc (.cells #[x, y] t)) x' y' t').keep hb
  have e : (w.alloc (.cells #[x, y] t)).heap.size = w.heap.size + 1 := by simp
  rw [e] at h2
  exact ⟨((box_new w x y t).alloc _).keep hb, h2, bq_trans (bq_alloc (bq_alloc (bq_refl w) _) _) hb⟩
end Go.Proofs.Ytfaipbdkkkhacaa
/- Layer 2: the next field of a reader. -/
namespace Go.Proofs.Ytfaipbdkkkhacaa
open Go.RowKit
set_option linter.unusedVariables false

theorem isfield_yes (n : Int) (w : World) (h0 : 0 ≤ n) (h1 : n ≤ 31) : Calls Try.prog 76 #[.int .i64 n] w fun e w' => e = .returned (.bool true) ∧ w = w' :=
  (isfield_any n w).mono fun e w' ⟨he, hw⟩ => ⟨by rw [he]; simp; omega, hw⟩
theorem isfield_no (n : Int) (w : World) (h : n < 0 ∨ 31 < n) : Calls Try.prog 76 #[.int .i64 n] w fun e w' => e = .returned (.bool false) ∧ w = w' :=
  (isfield_any n w).mono fun e w' ⟨he, hw⟩ => ⟨by rw [he]; simp; omega, hw⟩
theorem isright_yes (s : ByteArray) (a : Int) (w : World) (hs : s.size ≤ 1099511627776) (h0 : 0 ≤ a) (h1 : a ≤ 8 * s.size) : Calls Try.prog 70 #[.agg #[.string s, .int .i64 a]] w fun e w' => e = .returned (.bool true) ∧ Below w.heap.size w w' :=
  (isright_any s a w hs).mono fun e w' ⟨he, hw⟩ => ⟨by rw [he]; simp; omega, hw⟩
theorem isright_no (s : ByteArray) (a : Int) (w : World) (hs : s.size ≤ 1099511627776) (h : a < 0 ∨ 8 * s.size < a) : Calls Try.prog 70 #[.agg #[.string s, .int .i64 a]] w fun e w' => e = .returned (.bool false) ∧ Below w.heap.size w w' :=
  (isright_any s a w hs).mono fun e w' ⟨he, hw⟩ => ⟨by rw [he]; simp; omega, hw⟩
theorem bcell {W w1 : World} (hb : Below W.heap.size W w1) : (∀ b o, b < W.heap.size → w1.cell? ⟨b, o, none⟩ = W.cell? ⟨b, o, none⟩) ∧ (∀ b o, b < W.heap.size → w1.frozen? ⟨b, o, none⟩ = W.frozen? ⟨b, o, none⟩) :=
  ⟨fun b o h => hb.cell (p := ⟨b, o, none⟩) h, fun b o h => hb.frozen (p := ⟨b, o, none⟩) h⟩

def errR (e : Int) : Value := .tuple #[.int .i64 0, .agg #[.string ⟨#[]⟩, .int .i64 0], .int .i64 e]

def plE (m : Nat) (a n : Int) : Int := if 0 ≤ a ∧ a ≤ 8 * m ∧ 0 ≤ n ∧ n ≤ 31 then (if 8 * m - a < n then 2 else 0) else 1
def plV (s : ByteArray) (a n : Int) : Int := if plE s.size a n = 0 then (B.fld s.data.toList a.toNat n.toNat : Int) else 0
def plS (s : ByteArray) (a n : Int) : ByteArray := if plE s.size a n = 0 then s else ⟨#[]⟩
def plA (s : ByteArray) (a n : Int) : Int := if plE s.size a n = 0 then a + n else 0
def plR (s : ByteArray) (a n : Int) : Value := .tuple #[.int .i64 (plV s a n), .agg #[.string (plS s a n), .int .i64 (plA s a n)], .int .i64 (plE s.size a n)]
theorem plR_arg {s : ByteArray} {a n : Int} (h : ¬ (0 ≤ a ∧ a ≤ 8 * s.size ∧ 0 ≤ n ∧ n ≤ 31)) : plR s a n = errR 1 := by
  have e : plE s.size a n = 1 := if_neg h
  simp [plR, plV, plS, plA, e, errR]
theorem plR_short {s : ByteArray} {a n : Int} (h : 0 ≤ a ∧ a ≤ 8 * s.size ∧ 0 ≤ n ∧ n ≤ 31) (h2 : 8 * s.size - a < n) : plR s a n = errR 2 := by
  have e : plE s.size a n = 2 := by unfold plE; rw [if_pos h, if_pos h2]
  simp [plR, plV, plS, plA, e, errR]
theorem plE_ok {s : ByteArray} {a n : Nat} (h1 : n ≤ 31) (h2 : a + n ≤ 8 * s.size) : plE s.size a n = 0 := by
  unfold plE; rw [if_pos (by omega), if_neg (by omega)]
theorem plR_ok {s : ByteArray} {a n : Nat} (h1 : n ≤ 31) (h2 : a + n ≤ 8 * s.size) :
    plR s a n = .tuple #[.int .i64 (B.fld s.data.toList a n : Int), .agg #[.string s, .int .i64 ((a + n : Nat) : Int)], .int .i64 0] := by
  have e := plE_ok h1 h2
  simp [plR, plV, plS, plA, e]
theorem plain_bad1 (s : ByteArray) (a n : Int) (w : World) (hs : s.size ≤ 1099511627776) (h : a < 0 ∨ 8 * s.size < a) :
    Calls Try.prog 69 #[.agg #[.string s, .int .i64 a], .int .i64 n] w fun e w' => e = .returned (errR 1) ∧ Below w.heap.size w w' := by
  have H := Lib.hid h
  clear h
  go_enter Try.func69, Try.ntmps69
  go_wp2_with fail
  refine (isright_no s a _ hs H.out).mono ?_
  rintro e w1 ⟨rfl, hb⟩
  obtain ⟨hc, hf⟩ := bcell hb
  have hz : w.heap.size + 1 < w1.heap.size := by have := hb.size; simp at this; omega
  have H1 := Lib.hid (bq_trans (bq_alloc (bq_alloc (bq_refl w) _) _) hb)
  clear hb
  go_wp2_with fail
  exact bodyPost_ret (v := errR 1) (by simp [results, Try.results69, go_sem, hc, errR]) rfl ⟨rfl, bq_set (bq_set H1.out _ (by simp) _) _ (by simp) _⟩
theorem plain_bad2 (s : ByteArray) (a n : Int) (w : World) (hs : s.size ≤ 1099511627776) (h0 : 0 ≤ a) (h1 : a ≤ 8 * s.size) (h : n < 0 ∨ 31 < n) :
    Calls Try.prog 69 #[.agg #[.string s, .int .i64 a], .int .i64 n] w fun e w' => e = .returned (errR 1) ∧ Below w.heap.size w w' := by
  have H := Lib.hid h
  clear h
  go_enter Try.func69, Try.ntmps69
  go_wp2_with fail
  refine (isright_yes s a _ hs h0 h1).mono ?_
  rintro e w1 ⟨rfl, hb⟩
  obtain ⟨hc, hf⟩ := bcell hb
  have hz : w.heap.size + 1 < w1.heap.size := by have := hb.size; simp at this; omega
  have H1 := Lib.hid (bq_trans (bq_alloc (bq_alloc (bq_refl w) _) _) hb)
  clear hb
  go_wp2_with fail
  refine (isfield_no n _ H.out).mono ?_
  rintro e w' ⟨rfl, rfl⟩
  go_wp2_with fail
  exact bodyPost_ret (v := errR 1) (by simp [results, Try.results69, go_sem, hc, errR]) rfl ⟨rfl, bq_set (bq_set H1.out _ (by simp) _) _ (by simp) _⟩
theorem plain_short (s : ByteArray) (a n : Int) (w : World) (hs : s.size ≤ 1099511627776) (h0 : 0 ≤ a) (h1 : a ≤ 8 * s.size) (h2 : 0 ≤ n) (h3 : n ≤ 31) (h4 : 8 * s.size - a < n) :
    Calls Try.prog 69 #[.agg #[.string s, .int .i64 a], .int .i64 n] w fun e w' => e = .returned (errR 2) ∧ Below w.heap.size w w' := by
  go_enter Try.func69, Try.ntmps69
  go_wp2_with fail
  refine (isright_yes s a _ hs h0 h1).mono ?_
  rintro e w1 ⟨rfl, hb⟩
  obtain ⟨hc, hf⟩ := bcell hb
  have hz : w.heap.size + 1 < w1.heap.size := by have := hb.size; simp at this; omega
  have H1 := Lib.hid (bq_trans (bq_alloc (bq_alloc (bq_refl w) _) _) hb)
  clear hb
  go_wp2_with fail
  refine (isfield_yes n _ h2 h3).mono ?_
  rintro e w' ⟨rfl, rfl⟩
  go_wp2_with fail
  exact bodyPost_ret (v := errR 2) (by simp [results, Try.results69, go_sem, hc, errR]) rfl ⟨rfl, bq_set (bq_set H1.out _ (by simp) _) _ (by simp) _⟩
theorem plain_post {Q : Ending → World → Prop} {a : Act} {W : World} {g : Nat} {x y u v : Value} (hbox : Box W g x y) (h4 : a.tmps[4]?.getD undef = u) (h5 : a.tmps[5]?.getD undef = .pointer (some ⟨g, 0, none⟩)) (h6 : a.tmps[6]?.getD undef = v)
    (hd : a.defers = []) (hQ : Q (.returned (.tuple #[u, .agg #[x, y], v])) W) : bodyPost Try.prog Try.f69 Q Exit.ret a W :=
  bodyPost_ret (v := .tuple #[u, .agg #[x, y], v]) (by simp [results, Try.results69, go_sem, h4, h5, h6, hbox.1, hbox.2.1]) hd hQ
attribute [local go_sem ↓] Go.wp_at_zero Go.wp_at_succ
set_option maxHeartbeats 1000000 in
theorem plain_ok (s : ByteArray) (a n : Nat) (w : World) (hs : s.size ≤ 1099511627776) (h3 : n ≤ 31) (h4 : a + n ≤ 8 * s.size) :
    Calls Try.prog 69 #[.agg #[.string s, .int .i64 a], .int .i64 n] w fun e w' => e = .returned (.tuple #[.int .i64 (B.fld s.data.toList a n : Int), .agg #[.string s, .int .i64 ((a + n : Nat) : Int)], .int .i64 0]) ∧ Below w.heap.size w w' := by
  have HN := fun w => number_any s a (a + n) w hs (by omega) (by omega) (by omega)
  rw [show a + n - a = n by omega, show ((a + n : Nat) : Int) = (a : Int) + (n : Int) by omega] at HN
  have HN2 := Lib.hid HN
  clear HN
  rw [show ((a + n : Nat) : Int) = (a : Int) + (n : Int) by omega]
  go_enter Try.func69, Try.ntmps69
  go_wp2_with fail
  refine (isright_yes s a _ hs (by omega) (by omega)).mono ?_
  rintro e w1 ⟨rfl, hb⟩
  obtain ⟨⟨c0, c1, _, _, _⟩, ⟨d0, d1, g0, g1, hz⟩, H⟩ := box2_kept hb
  have H1 := Lib.hid H
  clear hb H
  go_wp2_with fail
  refine (isfield_yes n _ (by omega) (by omega)).mono ?_
  rintro e w' ⟨rfl, rfl⟩
  go_wp2_with fail
  have ne1 : ¬ w.heap.size + 1 = w1.heap.size := by omega
  have ne2 : ¬ w1.heap.size = w.heap.size + 1 := by omega
  have ne3 : ¬ w.heap.size = w1.heap.size := by omega
  go_region_held3 (fun w' => w'.cell? ⟨w.heap.size, 0, none⟩ = some (.string s) ∧ w'.cell? ⟨w.heap.size, 1, none⟩ = some (.int .i64 a) ∧ w'.cell? ⟨w1.heap.size, 0, none⟩ = some (.string s) ∧ w'.cell? ⟨w1.heap.size, 1, none⟩ = some (.int .i64 ((a : Int) + (n : Int)))) (go_keep) (first | (go_at_call 82; refine (HN2.out _).mono ?_; rintro e w2 ⟨rfl, m, rfl⟩))
  all_goals go_wp2
  refine plain_post (((((Box.alloc (⟨d0, d1, g0, g1, hz⟩) _).drewN _).set0 _).set1 _)) rfl rfl rfl rfl ⟨rfl, bq_set (bq_set (bq_drewN (bq_alloc H1.out _) _) _ (by simp) _) _ (by simp) _⟩
theorem plain_any (s : ByteArray) (a n : Int) (w : World) (hs : s.size ≤ 1099511627776) :
    Calls Try.prog 69 #[.agg #[.string s, .int .i64 a], .int .i64 n] w fun e w' => e = .returned (plR s a n) ∧ Below w.heap.size w w' := by
  by_cases h : 0 ≤ a ∧ a ≤ 8 * s.size ∧ 0 ≤ n ∧ n ≤ 31
  · by_cases h2 : 8 * s.size - a < n
    · rw [plR_short h h2]; exact plain_short s a n w hs h.1 h.2.1 h.2.2.1 h.2.2.2 h2
    · obtain ⟨A, rfl⟩ := Int.eq_ofNat_of_zero_le h.1
      obtain ⟨N, rfl⟩ := Int.eq_ofNat_of_zero_le h.2.2.1
      rw [plR_ok (by omega) (by omega)]; exact plain_ok s A N w hs (by omega) (by omega)
  · rw [plR_arg h]
    by_cases h3 : 0 ≤ a ∧ a ≤ 8 * s.size
    · exact plain_bad2 s a n w hs h3.1 h3.2 (by omega)
    · exact plain_bad1 s a n w hs (by omega)

end Go.Proofs.Ytfaipbdkkkhacaa
/- Plain facts on writers: bytes, and how many bits of the last one are free. -/
namespace Go.Proofs.Ytfaipbdkkkhacaa.B
set_option linter.unusedVariables false

/-- how many bytes, how many free bits, which bytes: behind a writer of m bytes with f free bits, n bits more -/
def putN (m f n : Nat) : Nat := (8 * m - f + n + 7) / 8
def putF (m f n : Nat) : Nat := 8 * putN m f n - (8 * m - f + n)
def putX (l : List UInt8) (f v n : Nat) : Nat := (bv l / P2 f * P2 n + v) * P2 (putF l.length f n)
def putL (l : List UInt8) (f v n : Nat) : List UInt8 := enc (putN l.length f n) (putX l f v n)
/-- the free bits are some of the last byte's, and 0 -/
def Snd (l : List UInt8) (f : Nat) : Prop := f ≤ 7 ∧ f ≤ 8 * l.length ∧ bv l % P2 f = 0

theorem putN_eq (m f n : Nat) : 8 * putN m f n = (8 * m - f + n) + putF m f n := by unfold putF putN; omega
theorem putF_le (m f n : Nat) : putF m f n ≤ 7 := by unfold putF putN; omega
theorem putF_zero (m n : Nat) : putF m 0 n = 8 * ((n + 7) / 8) - n := by unfold putF putN; omega
theorem putN_zero (m n : Nat) : putN m 0 n = m + (n + 7) / 8 := by unfold putN; omega
theorem head_lt (l : List UInt8) (f : Nat) (h : f ≤ 8 * l.length) : bv l / P2 f < P2 (8 * l.length - f) := by
  apply div_lt
  rw [show f + (8 * l.length - f) = 8 * l.length by omega]
  exact bv_lt l
theorem join_lt {x y a n : Nat} (hx : x < P2 a) (hy : y < P2 n) : x * P2 n + y < P2 (a + n) := by
  rw [P2_add]
  have h : (x + 1) * P2 n ≤ P2 a * P2 n := Nat.mul_le_mul_right _ hx
  rw [Nat.add_mul] at h
  omega
theorem shift_lt {x a g : Nat} (hx : x < P2 a) : x * P2 g < P2 (a + g) := by
  have := join_lt (n := g) hx (P2_pos g)
  omega
theorem putX_lt (l : List UInt8) (f v n : Nat) (hf : f ≤ 8 * l.length) (hv : v < P2 n) : putX l f v n < P2 (8 * putN l.length f n) := by
  rw [putN_eq]
  exact shift_lt (join_lt (head_lt l f hf) hv)
theorem putL_len (l : List UInt8) (f v n : Nat) : (putL l f v n).length = putN l.length f n := enc_len _ _
theorem putL_bv (l : List UInt8) (f v n : Nat) (hf : f ≤ 8 * l.length) (hv : v < P2 n) : bv (putL l f v n) = putX l f v n := bv_enc _ _ (putX_lt l f v n hf hv)
theorem putL_head (l : List UInt8) (f v n : Nat) (hf : f ≤ 8 * l.length) (hv : v < P2 n) : bv (putL l f v n) / P2 (putF l.length f n) = bv l / P2 f * P2 n + v := by
  rw [putL_bv l f v n hf hv, putX, Nat.mul_div_cancel _ (P2_pos _)]
theorem putL_snd (l : List UInt8) (f v n : Nat) (hf : f ≤ 8 * l.length) (hv : v < P2 n) : Snd (putL l f v n) (putF l.length f n) := by
  refine ⟨putF_le _ _ _, ?_, ?_⟩
  · rw [putL_len, putN_eq]; omega
  · rw [putL_bv l f v n hf hv, putX, Nat.mul_mod_left]
theorem putF_comp (m f k n : Nat) (hf : f ≤ 8 * m) : putF (putN m f k) (putF m f k) n = putF m f (k + n) := by unfold putF putN; omega
theorem putN_comp (m f k n : Nat) (hf : f ≤ 8 * m) : putN (putN m f k) (putF m f k) n = putN m f (k + n) := by unfold putF putN; omega
theorem putL_comp (l : List UInt8) (f u k v n : Nat) (hf : f ≤ 8 * l.length) (hu : u < P2 k) (hv : v < P2 n) :
    putL (putL l f u k) (putF l.length f k) v n = putL l f (u * P2 n + v) (k + n) := by
  have h := putL_head l f u k hf hu
  unfold putL putX at h ⊢
  rw [enc_len, h, putN_comp _ _ _ _ hf, putF_comp _ _ _ _ hf]
  congr 2
  rw [P2_add, Nat.add_mul, Nat.mul_assoc, Nat.add_assoc]
theorem putL_nil (l : List UInt8) (f : Nat) (h : Snd l f) : putL l f 0 0 = l := by
  obtain ⟨h1, h2, h3⟩ := h
  have e1 : putN l.length f 0 = l.length := by unfold putN; omega
  have e2 : putF l.length f 0 = f := by unfold putF; rw [e1]; omega
  unfold putL putX
  rw [e1, e2, P2_zero, Nat.mul_one, Nat.add_zero, Nat.mul_comm, Nat.mul_div_cancel' (Nat.dvd_of_mod_eq_zero h3)]
  exact enc_bv l
theorem putF_nil (m f : Nat) (h1 : f ≤ 7) (h2 : f ≤ 8 * m) : putF m f 0 = f := by unfold putF putN; omega

/-- no bit is free -/
theorem putL_whole (l : List UInt8) (v n : Nat) (hv : v < P2 n) : putL l 0 v n = l ++ enc ((n + 7) / 8) (v * P2 (putF l.length 0 n)) := by
  have e := putN_zero l.length n
  have hb : v * P2 (putF l.length 0 n) < P2 (8 * ((n + 7) / 8)) := by
    rw [show 8 * ((n + 7) / 8) = n + putF l.length 0 n by rw [putF_zero]; omega]
    exact shift_lt hv
  unfold putL putX
  rw [e, P2_zero, Nat.div_one, Nat.add_mul, Nat.mul_assoc, ← P2_add, show n + putF l.length 0 n = 8 * ((n + 7) / 8) by rw [putF_zero]; omega, enc_append _ _ _ _ hb, enc_bv]
/-- some bits of the last byte are free -/
theorem putL_part (l : List UInt8) (c : UInt8) (f v n : Nat) (hf0 : 1 ≤ f) (hf : f ≤ 7) (hv : v < P2 n) :
    putL (l ++ [c]) f v n = l ++ enc ((n + (8 - f) + 7) / 8) ((c.toNat / P2 f * P2 n + v) * P2 (putF (l.length + 1) f n)) := by
  have hc := c.toNat_lt
  have eN : putN (l.length + 1) f n = l.length + (n + (8 - f) + 7) / 8 := by unfold putN; omega
  have eF : (8 - f) + n + putF (l.length + 1) f n = 8 * ((n + (8 - f) + 7) / 8) := by unfold putF; rw [eN]; omega
  have hq : c.toNat / P2 f < P2 (8 - f) := by
    apply div_lt
    rw [show f + (8 - f) = 8 by omega, P2_8]; exact hc
  have hb : (c.toNat / P2 f * P2 n + v) * P2 (putF (l.length + 1) f n) < P2 (8 * ((n + (8 - f) + 7) / 8)) := by
    rw [← eF]; exact shift_lt (join_lt hq hv)
  have e256 : 256 = P2 f * P2 (8 - f) := by rw [← P2_add, show f + (8 - f) = 8 by omega, P2_8]
  have eh : (256 * bv l + c.toNat) / P2 f = bv l * P2 (8 - f) + c.toNat / P2 f := by
    rw [e256, Nat.mul_assoc, Nat.mul_add_div (P2_pos f), Nat.mul_comm]
  unfold putL putX
  rw [List.length_append, List.length_singleton, eN, bv_snoc, eh]
  rw [show ((bv l * P2 (8 - f) + c.toNat / P2 f) * P2 n + v) * P2 (putF (l.length + 1) f n) = bv l * P2 (8 * ((n + (8 - f) + 7) / 8)) + (c.toNat / P2 f * P2 n + v) * P2 (putF (l.length + 1) f n) by
    rw [← eF, P2_add, P2_add, Nat.add_mul, Nat.add_mul, Nat.add_mul]
    simp only [Nat.mul_assoc, Nat.add_assoc, Nat.add_mul]]
  rw [enc_append _ _ _ _ hb, enc_bv]
theorem enc_one (x : Nat) (h : x < 256) : enc 1 x = [UInt8.ofNat x] := by
  show [] ++ [UInt8.ofNat (x % 256)] = _
  rw [Nat.mod_eq_of_lt h]; rfl
theorem putL_bit0 (l : List UInt8) (b : Nat) (hb : b < 2) : putL l 0 b 1 = l ++ [UInt8.ofNat (128 * b)] ∧ putF l.length 0 1 = 7 := by
  have e : putF l.length 0 1 = 7 := by rw [putF_zero]
  refine ⟨?_, e⟩
  rw [putL_whole l b 1 hb, e]
  show l ++ enc 1 (b * 128) = _
  rw [enc_one _ (by omega), Nat.mul_comm]
theorem putL_bitf (l : List UInt8) (c : UInt8) (f b : Nat) (hb : b < 2) (hf0 : 1 ≤ f) (hf : f ≤ 7) (hz : c.toNat % P2 f = 0) :
    putL (l ++ [c]) f b 1 = l ++ [UInt8.ofNat (c.toNat + b * P2 (f - 1))] ∧ putF (l.length + 1) f 1 = f - 1 ∧ c.toNat + b * P2 (f - 1) < 256 := by
  have eF : putF (l.length + 1) f 1 = f - 1 := by unfold putF putN; omega
  have hP : P2 f = 2 * P2 (f - 1) := by rw [← P2_succ, show f - 1 + 1 = f by omega]
  have hd := Nat.div_add_mod c.toNat (P2 f)
  have ex : (c.toNat / P2 f * P2 1 + b) * P2 (f - 1) = c.toNat + b * P2 (f - 1) := by
    show (c.toNat / P2 f * 2 + b) * P2 (f - 1) = _
    rw [Nat.add_mul, Nat.mul_assoc, ← hP, Nat.mul_comm (c.toNat / P2 f)]
    omega
  have hlt : c.toNat + b * P2 (f - 1) < 256 := by
    have hq : c.toNat / P2 f < P2 (8 - f) := by
      apply div_lt
      rw [show f + (8 - f) = 8 by omega, P2_8]; exact c.toNat_lt
    have h2 := shift_lt (g := f - 1) (join_lt (n := 1) hq (show b < P2 1 from hb))
    rw [ex, show 8 - f + 1 + (f - 1) = 8 by omega, P2_8] at h2
    exact h2
  refine ⟨?_, eF, hlt⟩
  rw [putL_part l c f b 1 hf0 hf hb, eF, ex, show (1 + (8 - f) + 7) / 8 = 1 by omega, enc_one _ hlt]
theorem last_mod (l : List UInt8) (c : UInt8) (f : Nat) (hf : f ≤ 8) : bv (l ++ [c]) % P2 f = c.toNat % P2 f := by
  rw [bv_snoc, show 256 = P2 f * P2 (8 - f) by rw [← P2_add, show f + (8 - f) = 8 by omega, P2_8], Nat.mul_assoc, Nat.mul_add_mod]
theorem enc_get (m x i : Nat) (h : i < m) (h' : i < (enc m x).length) : (enc m x)[i].toNat = x / P2 (8 * (m - 1 - i)) % 256 := by
  induction m generalizing x with
  | zero => omega
  | succ m ih =>
    have hl := enc_len m (x / 256)
    by_cases e : i = m
    · subst e
      have : (enc (i + 1) x)[i] = UInt8.ofNat (x % 256) := by
        simp only [enc]
        rw [List.getElem_append_right (by omega)]
        simp [hl]
      rw [this, ofNat_toNat _ (Nat.mod_lt _ (by omega)), show i + 1 - 1 - i = 0 by omega, Nat.mul_zero, P2_zero, Nat.div_one]
    · have : (enc (m + 1) x)[i] = (enc m (x / 256))[i]'(by omega) := by
        simp only [enc]
        rw [List.getElem_append_left (by omega)]
      rw [this, ih _ (by omega) (by omega), Nat.div_div_eq_div_mul, ← P2_byte, show m - 1 - i + 1 = m + 1 - 1 - i by omega]
/-- the bytes of a number, so many, the lowest first -/
def le : Nat → Nat → List UInt8
  | 0, _ => []
  | n + 1, v => UInt8.ofNat (v % 256) :: le n (v / 256)
theorem le_len (n v : Nat) : (le n v).length = n := by
  induction n generalizing v with
  | zero => rfl
  | succ n ih => simp [le, ih]
theorem le_get (n v i : Nat) (h : i < n) (h' : i < (le n v).length) : (le n v)[i].toNat = v / P2 (8 * i) % 256 := by
  induction n generalizing v i with
  | zero => omega
  | succ n ih =>
    cases i with
    | zero => show (UInt8.ofNat (v % 256)).toNat = _; rw [ofNat_toNat _ (Nat.mod_lt _ (by omega)), Nat.mul_zero, P2_zero, Nat.div_one]
    | succ i =>
      have hi : i < (le n (v / 256)).length := by rw [le_len]; omega
      show ((le n (v / 256))[i]'hi).toNat = _
      rw [ih _ _ (by omega) hi, Nat.div_div_eq_div_mul, ← P2_byte]
theorem lv_le (n v : Nat) (h : v < P2 (8 * n)) : lv (le n v) = v := by
  induction n generalizing v with
  | zero => rw [Nat.mul_zero, P2_zero] at h; simp [le, lv]; omega
  | succ n ih =>
    rw [P2_byte] at h
    rw [le, lv, ih _ (by omega), ofNat_toNat _ (Nat.mod_lt _ (by omega))]
    omega
theorem le_snoc (n v : Nat) : le (n + 1) v = le n v ++ [UInt8.ofNat (v / P2 (8 * n) % 256)] := by
  induction n generalizing v with
  | zero => simp [le, P2_zero]
  | succ n ih => rw [le, ih, le, List.cons_append, Nat.div_div_eq_div_mul, ← P2_byte]
end Go.Proofs.Ytfaipbdkkkhacaa.B
/- Layer 2: rows of bytes in memory, new ones, as strings; whether a writer is sound. -/
namespace Go.Proofs.Ytfaipbdkkkhacaa
open Go.RowKit
set_option linter.unusedVariables false

/-- bytes as a string -/
def bs (l : List UInt8) : ByteArray := ⟨l.toArray⟩
theorem bs_data (l : List UInt8) : (bs l).data.toList = l := rfl
theorem bs_of (s : ByteArray) : bs s.data.toList = s := rfl
theorem bs_size (l : List UInt8) : (bs l).size = l.length := rfl
theorem bs_append (a b : List UInt8) : bs a ++ bs b = bs (a ++ b) := by
  apply ByteArray.ext
  rw [ByteArray.data_append]
  simp [bs]
/-- block g holds the bytes l, none frozen -/
def BRow (w : World) (g : Nat) (l : List UInt8) : Prop :=
  g < w.heap.size ∧ ∀ i (h : i < l.length), w.cell? ⟨g, i, none⟩ = some (.int .u8 (l[i].toNat : Int)) ∧ w.frozen? ⟨g, i, none⟩ = false
section
variable {w w' : World} {g : Nat} {l : List UInt8}
theorem BRow.below {B : Nat} (h : BRow w g l) (hb : Below B w w') (hB : g < B) : BRow w' g l :=
  ⟨Nat.lt_of_lt_of_le h.1 hb.size, fun i hi => ⟨(hb.cell (p := ⟨g, i, none⟩) hB).trans (h.2 i hi).1, (hb.frozen (p := ⟨g, i, none⟩) hB).trans (h.2 i hi).2⟩⟩
theorem BRow.keep (h : BRow w g l) (hb : Below w.heap.size w w') : BRow w' g l := h.below hb h.1
theorem BRow.drewN (h : BRow w g l) (n : Nat) : BRow (w.drewN n) g l := h
theorem BRow.set (h : BRow w g l) {i : Nat} (hi : i < l.length) (x : UInt8) : BRow (w.setCell ⟨g, i, none⟩ (.int .u8 (x.toNat : Int))) g (l.set i x) := by
  refine ⟨by simpa [World.setCell] using h.1, fun j hj => ?_⟩
  have hj' : j < l.length := by rw [List.length_set] at hj; exact hj
  refine ⟨?_, by rw [World.frozen?_setCell]; exact (h.2 j hj').2⟩
  by_cases e : j = i
  · subst e
    rw [World.cell?_setCell_same _ _ _ (h.2 j hj').1, List.getElem_set_self]
  · rw [World.cell?_setCell_other _ _ _ _ (by intro k; injection k; omega), (h.2 j hj').1, List.getElem_set_ne (by omega)]
theorem BRow.far (h : BRow w g l) {a : Addr} (ha : a.block ≠ g) (v : Value) : BRow (w.setCell a v) g l := by
  refine ⟨by simpa [World.setCell] using h.1, fun j hj => ⟨?_, by rw [World.frozen?_setCell]; exact (h.2 j hj).2⟩⟩
  rw [World.cell?_setCell_other _ _ _ _ (by intro k; rw [k] at ha; exact ha rfl)]
  exact (h.2 j hj).1
theorem BRow.str (h : BRow w g l) (c : Nat) : (convert 84 9 (.slice (some ⟨g, 0, none⟩) l.length c)).run Try.prog w = .ok (.string (bs l)) w :=
  run_convert_bytes_back (P := Try.prog) w 84 9 5 ⟨g, 0, none⟩ c l Try.underlying84 Try.underlying5 Try.underlying9 (fun j hj => by rw [← (h.2 j hj).1]; congr 1; unfold Addr.add; split <;> simp_all)
end
theorem byte_info : (Try.prog.info? 5).map (fun i => (i.zero, i.size, i.bytes)) = some (some (.int .u8 0), 1, 1) := by kernel_rfl
theorem brow_made (w : World) (n : Nat) : BRow (w.alloc (.cells (madeCells #[.int .u8 0] n) 5)) w.heap.size (List.replicate n 0) := by
  refine ⟨by simp, fun i hi => ?_⟩
  have hi' : i < n := by rw [List.length_replicate] at hi; exact hi
  refine ⟨?_, World.frozen?_alloc_new ..⟩
  rw [World.cell?_alloc_new, ← Array.getElem?_toList, toList_madeCells_one, List.getElem?_replicate, if_pos hi', List.getElem_replicate]
  rfl
theorem made_bytes (x : Int) (n : Nat) (hx : x = n) (hn : n ≤ 1000000) (w : World) : (Instr.makeSlice 84 (.int .i64 x) (.int .i64 x)).run Try.prog w = .ok (.slice (some ⟨w.heap.size, 0, none⟩) n n) (w.alloc (.cells (madeCells #[.int .u8 0] n) 5)) := by
  rw [hx]
  exact run_make_row' (P := Try.prog) 84 5 (.int .u8 0) 1 Try.underlying84 byte_info rfl .i64 .i64 n (by omega) (by omega) w

/-- is a writer sound, by its last byte -/
def sndB (s : ByteArray) (f : Int) : Bool := decide (f = 0) || (decide (0 < f) && decide (f ≤ 7) && decide (0 < s.size) && decide (B.bv s.data.toList % B.P2 f.toNat = 0))
set_option maxHeartbeats 400000 in
theorem sound_zero (s : ByteArray) (w : World) : Calls Try.prog 85 #[.agg #[.string s, .int .i64 0]] w fun e w' => e = .returned (.bool true) ∧ Below w.heap.size w w' := by
  go_enter Try.func85, Try.ntmps85
  go_wp2
  go_ret
  exact ⟨rfl, bq_alloc (bq_refl w) _⟩
theorem sound_out (s : ByteArray) (f : Int) (w : World) (h : f < 0 ∨ 7 < f) : Calls Try.prog 85 #[.agg #[.string s, .int .i64 f]] w fun e w' => e = .returned (.bool false) ∧ Below w.heap.size w w' := by
  have h0 : (f == 0) = false := by rw [beq_eq_false_iff_ne]; omega
  rcases h with h | h
  all_goals
    go_enter Try.func85, Try.ntmps85
    go_wp2
    go_ret
    exact ⟨rfl, bq_alloc (bq_refl w) _⟩
theorem sound_empty (s : ByteArray) (f : Int) (w : World) (h0 : 0 < f) (h1 : f ≤ 7) (hs : s.size = 0) : Calls Try.prog 85 #[.agg #[.string s, .int .i64 f]] w fun e w' => e = .returned (.bool false) ∧ Below w.heap.size w w' := by
  have h0 : (f == 0) = false := by rw [beq_eq_false_iff_ne]; omega
  obtain rfl : s = ⟨#[]⟩ := by
    apply ByteArray.ext
    exact Array.eq_empty_of_size_eq_zero hs
  clear hs
  go_enter Try.func85, Try.ntmps85
  go_wp2
  go_ret
  exact ⟨rfl, bq_alloc (bq_refl w) _⟩
theorem and_last (c : UInt8) (f : Nat) (hf : f ≤ 7) : (bits .and .u8 (c.toNat : Int) ((2 ^ f - 1) % 256) == 0) = decide (c.toNat % B.P2 f = 0) := by
  have h1 := B.P2_pos f
  have h2 : B.P2 f ≤ 128 := B.P2_le (b := 7) hf
  have hc := c.toNat_lt
  rw [P2_cast, show ((B.P2 f : Int) - 1) % 256 = ((B.P2 f - 1 : Nat) : Int) by omega, u8_and_nat _ _ hc (by omega)]
  have e : c.toNat &&& (B.P2 f - 1) = c.toNat % B.P2 f := Nat.and_two_pow_sub_one_eq_mod _ _
  rw [e, Bool.eq_iff_iff, beq_iff_eq, decide_eq_true_iff]
  omega
theorem sound_last (s : ByteArray) (f m : Nat) (w : World) (h0 : 0 < f) (h1 : f ≤ 7) (b3 : m < s.size) (hm : s.size ≤ m + 1) (hs : s.size ≤ 1099511627776) : Calls Try.prog 85 #[.agg #[.string s, .int .i64 f]] w fun e w' => e = .returned (.bool (decide (s[m].toNat % B.P2 f = 0))) ∧ Below w.heap.size w w' := by
  have e0 : ((f : Int) == 0) = false := by rw [beq_eq_false_iff_ne]; omega
  have e1 : s.toList.isEmpty = false := by
    rw [ByteArray.toList_eq, List.isEmpty_eq_false_iff]
    intro h
    have h2 := bytes_length s
    rw [h] at h2
    simp only [List.length_nil] at h2
    omega
  have HA := Lib.hid (and_last s[m] f h1)
  have wr : IntKind.i64.wrap ((s.size : Int) - 1) = (m : Int) := by rw [i64_wrap _ (by omega) (by omega)]; omega
  have b2 : (m : Int) < (s.size : Int) := by omega
  go_enter Try.func85, Try.ntmps85
  go_wp2
  go_quiet (fail)
  go_wp2
  go_ret
  exact ⟨ret_bool HA.out, bq_drewN (bq_alloc (bq_refl w) _) _⟩
end Go.Proofs.Ytfaipbdkkkhacaa
/- Layer 2: the program's put. -/
namespace Go.Proofs.Ytfaipbdkkkhacaa
open Go.RowKit
set_option linter.unusedVariables false

theorem put_post {Q : Ending → World → Prop} {a : Act} {W : World} {g : Nat} {x y : Value} (hbox : Box W g x y) (h : a.tmps[6]?.getD undef = .pointer (some ⟨g, 0, none⟩))
    (hd : a.defers = []) (hQ : Q (.returned (.agg #[x, y])) W) : bodyPost Try.prog Try.f77 Q Exit.ret a W :=
  bodyPost_ret (v := .agg #[x, y]) (by simp [results, Try.results77, go_sem, h, hbox.1, hbox.2.1]) hd hQ
def PutRel (w1 : World) (g b t V : Nat) (i : Value) (wr : World) : Prop :=
  ∃ k : Nat, k ≤ t ∧ i = .int .i64 k ∧ BRow wr g ((B.enc t V).take k ++ List.replicate (t - k) 0) ∧ Box wr b (.string ⟨#[]⟩) (.int .i64 0) ∧ Below w1.heap.size w1 wr
theorem list_step (T : List UInt8) (t k : Nat) (hT : T.length = t) (hk : k < t) (h' : k < T.length) : (T.take k ++ List.replicate (t - k) 0).set k T[k] = T.take (k + 1) ++ List.replicate (t - (k + 1)) 0 := by
  rw [List.set_append_right _ _ (by simp; omega), List.length_take, Nat.min_eq_left (by omega), Nat.sub_self, show t - k = (t - (k + 1)) + 1 by omega, List.replicate_succ, List.set_cons_zero, List.take_succ_eq_append_getElem h', List.append_assoc]
  rfl
theorem brow_full (t V : Nat) : (B.enc t V).take t ++ List.replicate (t - t) (0 : UInt8) = B.enc t V := by
  rw [Nat.sub_self, List.replicate_zero, List.append_nil, List.take_of_length_le (by rw [B.enc_len]; omega)]
theorem brow_step (g t V k : Nat) (w : World) (hk : k < t) (h : BRow w g ((B.enc t V).take k ++ List.replicate (t - k) 0)) :
    BRow (w.setCell ⟨g, k, none⟩ (.int .u8 ((V : Int) / 2 ^ (8 * (t - 1 - k)) % 256))) g ((B.enc t V).take (k + 1) ++ List.replicate (t - (k + 1)) 0) := by
  have hl := B.enc_len t V
  have hk' : k < (B.enc t V).length := by omega
  rw [← list_step (B.enc t V) t k hl hk hk']
  have e : (V : Int) / 2 ^ (8 * (t - 1 - k)) % 256 = ((B.enc t V)[k].toNat : Int) := by rw [B.enc_get t V k hk hk', div_pow]; omega
  rw [e]
  exact h.set (by simp [hl]; omega) _
set_option maxHeartbeats 1000000 in
theorem put_zero (s : ByteArray) (v n : Nat) (w : World) (hs : s.size ≤ 1099511627776) (hn : n ≤ 31) (hv : v < 2147483648) (HV : Hid (v < B.P2 n)) :
    Calls Try.prog 77 #[.agg #[.string s, .int .i64 0], .int .i64 v, .int .i64 n] w fun e w' => e = .returned (.agg #[.string (bs (B.putL s.data.toList 0 v n)), .int .i64 (B.putF s.size 0 n : Int)]) ∧ Below w.heap.size w w' := by
  obtain ⟨t, ht⟩ : ∃ t, t = (n + 7) / 8 := ⟨_, rfl⟩
  have ht4 : t ≤ 4 := by omega
  have h8 : n ≤ 8 * t := by omega
  have h9 : 8 * t ≤ n + 7 := by omega
  go_enter Try.func77, Try.ntmps77
  go_wp2_with fail
  refine (sound_zero s _).mono ?_
  rintro e w1 ⟨rfl, hb⟩
  obtain ⟨⟨c0, c1, f0, f1, cz⟩, ⟨d0, d1, g0, g1, hz⟩, H⟩ := box2_kept hb
  have H1 := Lib.hid H
  clear hb H
  have hmk := made_bytes (((n : Int) + 7) / 8) t (by omega) (by omega) w1
  have BM := Lib.hid (brow_made w1 t)
  have HMB := Lib.hid (bq_alloc (bq_refl w1) (.cells (madeCells #[.int .u8 0] t) 5))
  have HT := Lib.hid ht
  clear ht
  generalize w1.alloc (.cells (madeCells #[.int .u8 0] t) 5) = W at hmk BM HMB
  go_wp2_with fail
  obtain ⟨V, hV⟩ : ∃ V, V = v * B.P2 (8 * t - n) := ⟨_, rfl⟩
  have hV2 : V < B.P2 (8 * t) := by rw [hV]; exact Nat.lt_of_lt_of_le (B.shift_lt HV.out) (B.P2_le (by omega))
  have hV3 : V < 1099511627776 := Nat.lt_of_lt_of_le hV2 (B.P2_le (b := 40) (by omega))
  have hVw : wrap64 ((v : Int) * 2 ^ (8 * t - n)) = (V : Int) := by
    rw [P2_cast, show (v : Int) * (B.P2 (8 * t - n) : Int) = (V : Int) by rw [hV]; push_cast; rfl]
    exact i64_id _ (by omega) (by omega)
  rw [hVw]
  have HVD := Lib.hid hV
  have BB := Lib.hid (Box.keep ⟨d0, d1, g0, g1, hz⟩ HMB.out)
  have H2 := Lib.hid (bq_trans H1.out HMB.out)
  have ne1 : ¬ w.heap.size + 1 = w1.heap.size := by omega
  clear hV hV2 hVw hmk c0 c1 f0 f1 d0 d1 g0 g1
  go_loopw [62] (fun i wr => PutRel w w1.heap.size (w.heap.size + 1) t V i wr) (fun i _ => t - (intOf i).toNat)
  case atStart => exact ⟨0, by omega, rfl, by simpa using BM.out, BB.out, H2.out⟩
  case round =>
    obtain ⟨k, hk, rfl, hrow, hbox, hbel⟩ := hrel
    by_cases hlt : k < t
    · have hkl : k < ((B.enc t V).take k ++ List.replicate (t - k) (0 : UInt8)).length := by simp [B.enc_len]; omega
      have hc := (hrow.2 k hkl).1
      have hf := (hrow.2 k hkl).2
      have HR := Lib.hid (brow_step w1.heap.size t V k wr hlt hrow)
      have HBOX := Lib.hid hbox
      have HBEL := Lib.hid hbel
      clear hrow hbox hbel
      go_wp2
      go_roundw
      case rel => exact ⟨k + 1, by omega, by go_num, HR.out, HBOX.out.far (by simp; omega) _, bq_set HBEL.out _ (by simp; omega) _⟩
      case measure => simp [intOf]; omega
    · obtain rfl : k = t := by omega
      rw [brow_full] at hrow
      have hconv := hrow.str k
      rw [B.enc_len] at hconv
      have hsz : (bs (B.enc k V)).size ≤ 5 := by rw [bs_size, B.enc_len]; omega
      have HFIN : Hid (s ++ bs (B.enc k V) = bs (B.putL s.data.toList 0 v n)) := Lib.hid (by rw [← bs_of s, bs_append, bs_data, B.putL_whole _ _ _ HV.out, HVD.out, HT.out, B.putF_zero])
      have HFR : Hid ((8 * (k : Int) - (n : Int)) = (B.putF s.size 0 n : Int)) := Lib.hid (by rw [HT.out, B.putF_zero]; omega)
      generalize bs (B.enc k V) = tl at *
      obtain ⟨d0, d1, g0, g1, hz⟩ := hbox
      have HBEL := Lib.hid hbel
      clear hrow hbel
      go_wp2
      exact put_post ((Box.set0 ⟨d0, d1, g0, g1, hz⟩ _).set1 _) rfl rfl ⟨by rw [HFIN.out, HFR.out], bq_set (bq_set HBEL.out _ (by simp) _) _ (by simp) _⟩
set_option maxHeartbeats 1000000 in
theorem put_unsound (s : ByteArray) (f : Int) (v n : Nat) (w : World) (hs : s.size ≤ 1099511627776) (hn : n ≤ 31) (hv : v < 2147483648) (HV : Hid (v < B.P2 n))
    (HS : Hid (∀ w, Calls Try.prog 85 #[.agg #[.string s, .int .i64 f]] w fun e w' => e = .returned (.bool false) ∧ Below w.heap.size w w')) :
    Calls Try.prog 77 #[.agg #[.string s, .int .i64 f], .int .i64 v, .int .i64 n] w fun e w' => e = .returned (.agg #[.string (bs (B.putL s.data.toList 0 v n)), .int .i64 (B.putF s.size 0 n : Int)]) ∧ Below w.heap.size w w' := by
  obtain ⟨t, ht⟩ : ∃ t, t = (n + 7) / 8 := ⟨_, rfl⟩
  have ht4 : t ≤ 4 := by omega
  have h8 : n ≤ 8 * t := by omega
  have h9 : 8 * t ≤ n + 7 := by omega
  go_enter Try.func77, Try.ntmps77
  go_wp2_with fail
  refine (HS.out _).mono ?_
  rintro e w0 ⟨rfl, hb⟩
  obtain ⟨⟨c0', c1', f0', f1', cz'⟩, ⟨d0', d1', g0', g1', hz'⟩, H⟩ := box2_kept hb
  have C1 : Box (w0.setCell ⟨w.heap.size, 1, none⟩ (.int .i64 0)) w.heap.size (.string s) (.int .i64 0) := Box.set1 ⟨c0', c1', f0', f1', cz'⟩ _
  have D1 : Box (w0.setCell ⟨w.heap.size, 1, none⟩ (.int .i64 0)) (w.heap.size + 1) (.string ⟨#[]⟩) (.int .i64 0) := Box.far ⟨d0', d1', g0', g1', hz'⟩ (by simp) _
  have H1 := Lib.hid (bq_set H ⟨w.heap.size, 1, none⟩ (by simp) (.int .i64 0))
  go_upto_region 3 with (fail)
  generalize w0.setCell ⟨w.heap.size, 1, none⟩ (.int .i64 0) = w1 at C1 D1 H1 ⊢
  obtain ⟨c0, c1, f0, f1, cz⟩ := C1
  obtain ⟨d0, d1, g0, g1, hz⟩ := D1
  clear c0' c1' f0' f1' cz' d0' d1' g0' g1' hz' H hb
  have hmk := made_bytes (((n : Int) + 7) / 8) t (by omega) (by omega) w1
  have BM := Lib.hid (brow_made w1 t)
  have HMB := Lib.hid (bq_alloc (bq_refl w1) (.cells (madeCells #[.int .u8 0] t) 5))
  have HT := Lib.hid ht
  clear ht
  generalize w1.alloc (.cells (madeCells #[.int .u8 0] t) 5) = W at hmk BM HMB
  go_wp2_with fail
  obtain ⟨V, hV⟩ : ∃ V, V = v * B.P2 (8 * t - n) := ⟨_, rfl⟩
  have hV2 : V < B.P2 (8 * t) := by rw [hV]; exact Nat.lt_of_lt_of_le (B.shift_lt HV.out) (B.P2_le (by omega))
  have hV3 : V < 1099511627776 := Nat.lt_of_lt_of_le hV2 (B.P2_le (b := 40) (by omega))
  have hVw : wrap64 ((v : Int) * 2 ^ (8 * t - n)) = (V : Int) := by
    rw [P2_cast, show (v : Int) * (B.P2 (8 * t - n) : Int) = (V : Int) by rw [hV]; push_cast; rfl]
    exact i64_id _ (by omega) (by omega)
  rw [hVw]
  have HVD := Lib.hid hV
  have BB := Lib.hid (Box.keep ⟨d0, d1, g0, g1, hz⟩ HMB.out)
  have H2 := Lib.hid (bq_trans H1.out HMB.out)
  have ne1 : ¬ w.heap.size + 1 = w1.heap.size := by omega
  clear hV hV2 hVw hmk c0 c1 f0 f1 d0 d1 g0 g1
  go_loopw [62] (fun i wr => PutRel w w1.heap.size (w.heap.size + 1) t V i wr) (fun i _ => t - (intOf i).toNat)
  case atStart => exact ⟨0, by omega, rfl, by simpa using BM.out, BB.out, H2.out⟩
  case round =>
    obtain ⟨k, hk, rfl, hrow, hbox, hbel⟩ := hrel
    by_cases hlt : k < t
    · have hkl : k < ((B.enc t V).take k ++ List.replicate (t - k) (0 : UInt8)).length := by simp [B.enc_len]; omega
      have hc := (hrow.2 k hkl).1
      have hf := (hrow.2 k hkl).2
      have HR := Lib.hid (brow_step w1.heap.size t V k wr hlt hrow)
      have HBOX := Lib.hid hbox
      have HBEL := Lib.hid hbel
      clear hrow hbox hbel
      go_wp2
      go_roundw
      case rel => exact ⟨k + 1, by omega, by go_num, HR.out, HBOX.out.far (by simp; omega) _, bq_set HBEL.out _ (by simp; omega) _⟩
      case measure => simp [intOf]; omega
    · obtain rfl : k = t := by omega
      rw [brow_full] at hrow
      have hconv := hrow.str k
      rw [B.enc_len] at hconv
      have hsz : (bs (B.enc k V)).size ≤ 5 := by rw [bs_size, B.enc_len]; omega
      have HFIN : Hid (s ++ bs (B.enc k V) = bs (B.putL s.data.toList 0 v n)) := Lib.hid (by rw [← bs_of s, bs_append, bs_data, B.putL_whole _ _ _ HV.out, HVD.out, HT.out, B.putF_zero])
      have HFR : Hid ((8 * (k : Int) - (n : Int)) = (B.putF s.size 0 n : Int)) := Lib.hid (by rw [HT.out, B.putF_zero]; omega)
      generalize bs (B.enc k V) = tl at *
      obtain ⟨d0, d1, g0, g1, hz⟩ := hbox
      have HBEL := Lib.hid hbel
      clear hrow hbel
      go_wp2
      exact put_post ((Box.set0 ⟨d0, d1, g0, g1, hz⟩ _).set1 _) rfl rfl ⟨by rw [HFIN.out, HFR.out], bq_set (bq_set HBEL.out _ (by simp) _) _ (by simp) _⟩
theorem bs_extract (s : ByteArray) (m : Nat) (h : m ≤ s.size) : s.extract 0 m = bs (s.data.toList.take m) := by
  apply ByteArray.ext
  rw [ByteArray.data_extract]
  apply Array.toList_inj.1
  simp [bs]
theorem split_last (s : ByteArray) (m : Nat) (hm : m < s.size) (hm2 : s.size ≤ m + 1) : s.data.toList = s.data.toList.take m ++ [s[m]] := by
  rw [bytes_getElem s m hm (by rw [bytes_length]; exact hm), ← List.take_succ_eq_append_getElem, List.take_of_length_le (by rw [bytes_length]; omega)]
theorem putL_part_bs (s : ByteArray) (m : Nat) (hm : m < s.size) (hm2 : s.size ≤ m + 1) (f v n : Nat) (hf0 : 1 ≤ f) (hf : f ≤ 7) (hv : v < B.P2 n) :
    B.putL s.data.toList f v n = s.data.toList.take m ++ B.enc ((n + (8 - f) + 7) / 8) ((s[m].toNat / B.P2 f * B.P2 n + v) * B.P2 (B.putF s.size f n)) ∧ 8 * ((n + (8 - f) + 7) / 8) - (n + (8 - f)) = B.putF s.size f n := by
  have hl : (s.data.toList.take m).length = m := by rw [List.length_take, bytes_length]; omega
  have e := B.putL_part (s.data.toList.take m) s[m] f v n hf0 hf hv
  rw [← split_last s m hm hm2, hl, show m + 1 = s.size by omega] at e
  refine ⟨e, ?_⟩
  unfold B.putF B.putN
  omega
theorem or_head (v n f : Nat) (c : UInt8) (hn : n ≤ 31) (hu : c.toNat / B.P2 f * B.P2 n + v < 9223372036854775808) (hv : v < B.P2 n) :
    bits .or .i64 (v : Int) (wrap64 (wrap64 ((c.toNat : Int) / 2 ^ f) * 2 ^ n)) = ((c.toNat / B.P2 f * B.P2 n + v : Nat) : Int) := by
  have hc := c.toNat_lt
  have hd := Nat.div_le_self c.toNat (B.P2 f)
  rw [div_pow, P2_cast]
  generalize c.toNat / B.P2 f = d at *
  rw [i64_id (d : Int) (by omega) (by omega), show (d : Int) * (B.P2 n : Int) = ((d * B.P2 n : Nat) : Int) by push_cast; rfl, i64_id _ (by omega) (by omega)]
  have hj := nat_join n (d * B.P2 n) v (Nat.mul_mod_left _ _) hv
  rw [i64_or_nat _ _ (by omega) (by omega), Nat.or_comm, hj]
set_option maxHeartbeats 2000000 in
theorem put_part (s : ByteArray) (f m : Nat) (v n : Nat) (w : World) (hs : s.size ≤ 1099511627776) (hn : n ≤ 31) (hv : v < 2147483648) (HV : Hid (v < B.P2 n)) (hf0 : 1 ≤ f) (hf : f ≤ 7) (hm : m < s.size) (hm2 : s.size ≤ m + 1)
    (HS : Hid (∀ w, Calls Try.prog 85 #[.agg #[.string s, .int .i64 f]] w fun e w' => e = .returned (.bool true) ∧ Below w.heap.size w w')) :
    Calls Try.prog 77 #[.agg #[.string s, .int .i64 f], .int .i64 v, .int .i64 n] w fun e w' => e = .returned (.agg #[.string (bs (B.putL s.data.toList f v n)), .int .i64 (B.putF s.size f n : Int)]) ∧ Below w.heap.size w w' := by
  obtain ⟨t, ht⟩ : ∃ t, t = (n + (8 - f) + 7) / 8 := ⟨_, rfl⟩
  have ht4 : t ≤ 5 := by omega
  have h8 : n + (8 - f) ≤ 8 * t := by omega
  have h9 : 8 * t ≤ n + (8 - f) + 7 := by omega
  go_enter Try.func77, Try.ntmps77
  go_wp2_with fail
  refine (HS.out _).mono ?_
  rintro e w0 ⟨rfl, hb⟩
  obtain ⟨C1, D1, H⟩ := box2_kept hb
  obtain ⟨c0, c1, f0, f1, cz⟩ := C1
  have H0 := Lib.hid H
  have HD := Lib.hid D1
  clear hb H D1
  go_upto_region 6 with (fail)
  rw [show (s.size : Int) - 1 = (m : Int) by omega]
  have b2 : (m : Int) < (s.size : Int) := by omega
  go_wp2
  go_quiet (fail)
  go_upto_region 9 with (fail)
  obtain ⟨q, hq⟩ : ∃ q, q = n + (8 - f) := ⟨_, rfl⟩
  rw [show (n : Int) + (8 - (f : Int)) = (q : Int) by omega]
  have HC := Lib.hid (putL_part_bs s m hm hm2 f v n hf0 hf HV.out)
  have hc8 := s[m].toNat_lt
  obtain ⟨u, hu⟩ : ∃ u, u = s[m].toNat / B.P2 f * B.P2 n + v := ⟨_, rfl⟩
  have hu1 : u < B.P2 q := by rw [hu, hq, Nat.add_comm n]; exact B.join_lt (B.div_lt (by rw [show f + (8 - f) = 8 by omega]; exact hc8)) HV.out
  have hu2 : u < B.P2 38 := Nat.lt_of_lt_of_le hu1 (B.P2_le (by omega))
  have hu3 : u < 274877906944 := hu2
  have hor : bits .or .i64 (v : Int) (wrap64 (wrap64 ((s[m].toNat : Int) / 2 ^ f) * 2 ^ n)) = (u : Int) := by
    rw [hu]; exact or_head v n f s[m] hn (by rw [← hu]; omega) HV.out
  rw [hor]
  have HU := Lib.hid hu
  have HU1 := Lib.hid hu1
  have HQ := Lib.hid hq
  have hq8 : q ≤ 8 * t := by omega
  have hq9 : 8 * t ≤ q + 7 := by omega
  have hxs : (s.extract 0 m).size ≤ 1099511627776 := by rw [ByteArray.size_extract]; omega
  have HH := Lib.hid (bs_extract s m (by omega))
  rw [← hq, ← HU.out] at HC
  clear hc8 hu1 hu2 hor hq hu
  generalize s.extract 0 m = h at hxs HH ⊢
  have C1 : Box (w0.drewN nq) w.heap.size (.string s) (.int .i64 f) := ⟨c0, c1, f0, f1, cz⟩
  have D1 := Box.drewN HD.out nq
  have H1 := Lib.hid (bq_drewN H0.out nq)
  clear c0 c1 f0 f1 cz HD H0 HS
  generalize w0.drewN nq = w1 at C1 D1 H1 ⊢
  obtain ⟨c0, c1, f0, f1, cz⟩ := C1
  obtain ⟨d0, d1, g0, g1, hz⟩ := D1
  have hmk := made_bytes (((q : Int) + 7) / 8) t (by omega) (by omega) w1
  have BM := Lib.hid (brow_made w1 t)
  have HMB := Lib.hid (bq_alloc (bq_refl w1) (.cells (madeCells #[.int .u8 0] t) 5))
  have HT := Lib.hid ht
  clear ht
  generalize w1.alloc (.cells (madeCells #[.int .u8 0] t) 5) = W at hmk BM HMB
  go_wp2_with fail
  obtain ⟨V, hV⟩ : ∃ V, V = u * B.P2 (8 * t - q) := ⟨_, rfl⟩
  have hV2 : V < B.P2 (8 * t) := by rw [hV]; exact Nat.lt_of_lt_of_le (B.shift_lt HU1.out) (B.P2_le (by omega))
  have hV3 : V < 1099511627776 := Nat.lt_of_lt_of_le hV2 (B.P2_le (b := 40) (by omega))
  have hVw : wrap64 ((u : Int) * 2 ^ (8 * t - q)) = (V : Int) := by
    rw [P2_cast, show (u : Int) * (B.P2 (8 * t - q) : Int) = (V : Int) by rw [hV]; push_cast; rfl]
    exact i64_id _ (by omega) (by omega)
  rw [hVw]
  have HVD := Lib.hid hV
  have BB := Lib.hid (Box.keep ⟨d0, d1, g0, g1, hz⟩ HMB.out)
  have H2 := Lib.hid (bq_trans H1.out HMB.out)
  have ne1 : ¬ w.heap.size + 1 = w1.heap.size := by omega
  clear hV hV2 hVw hmk c0 c1 f0 f1 d0 d1 g0 g1
  go_loopw [62] (fun i wr => PutRel w w1.heap.size (w.heap.size + 1) t V i wr) (fun i _ => t - (intOf i).toNat)
  case atStart => exact ⟨0, by omega, rfl, by simpa using BM.out, BB.out, H2.out⟩
  case round =>
    obtain ⟨k, hk, rfl, hrow, hbox, hbel⟩ := hrel
    by_cases hlt : k < t
    · have hkl : k < ((B.enc t V).take k ++ List.replicate (t - k) (0 : UInt8)).length := by simp [B.enc_len]; omega
      have hc := (hrow.2 k hkl).1
      have hf := (hrow.2 k hkl).2
      have HR := Lib.hid (brow_step w1.heap.size t V k wr hlt hrow)
      have HBOX := Lib.hid hbox
      have HBEL := Lib.hid hbel
      clear hrow hbox hbel
      go_wp2
      go_roundw
      case rel => exact ⟨k + 1, by omega, by go_num, HR.out, HBOX.out.far (by simp; omega) _, bq_set HBEL.out _ (by simp; omega) _⟩
      case measure => simp [intOf]; omega
    · obtain rfl : k = t := by omega
      rw [brow_full] at hrow
      have hconv := hrow.str k
      rw [B.enc_len] at hconv
      have hsz : (bs (B.enc k V)).size ≤ 5 := by rw [bs_size, B.enc_len]; omega
      have HFIN : Hid (h ++ bs (B.enc k V) = bs (B.putL s.data.toList f v n)) := Lib.hid (by rw [HH.out, bs_append, HC.out.1, HVD.out, HT.out, ← HQ.out, show 8 * ((q + 7) / 8) - q = B.putF s.size f n from HC.out.2])
      have HFR : Hid ((8 * (k : Int) - (q : Int)) = (B.putF s.size f n : Int)) := Lib.hid (by rw [← HC.out.2, HT.out, ← HQ.out]; omega)
      generalize bs (B.enc k V) = tl at *
      obtain ⟨d0, d1, g0, g1, hz⟩ := hbox
      have HBEL := Lib.hid hbel
      clear hrow hbel
      go_wp2
      exact put_post ((Box.set0 ⟨d0, d1, g0, g1, hz⟩ _).set1 _) rfl rfl ⟨by rw [HFIN.out, HFR.out], bq_set (bq_set HBEL.out _ (by simp) _) _ (by simp) _⟩
end Go.Proofs.Ytfaipbdkkkhacaa
/- Layer 2: the width of a number; the program's and the document's. -/
namespace Go.Proofs.Ytfaipbdkkkhacaa
open Go.RowKit
set_option linter.unusedVariables false

theorem tab_size : Lib.len8tab.size = 256 := by decide +kernel
theorem tab_all : ∀ j : Fin 256, (Lib.len8tab[j.val]'(by rw [tab_size]; exact j.isLt)).toNat = Lib.bitLen j.val := by decide +kernel
theorem tab_at (i : Nat) (h : i < Lib.len8tab.size) : (Lib.len8tab[i]'h).toNat = Lib.bitLen i := tab_all ⟨i, by rw [tab_size] at h; exact h⟩
theorem tab_close (k : Nat) (y : Int) (X : Nat) (h : y.toNat < Lib.len8tab.size) (hk : k ≤ 56) (e : Lib.bitLen X = k + Lib.bitLen y.toNat) :
    wrap64 ((k : Int) + wrap64 ((Lib.len8tab[y.toNat]'h).toNat : Int)) = (Lib.bitLen X : Int) := by
  have h8 : Lib.bitLen y.toNat ≤ 8 := Lib.bitLen_le8 ⟨y.toNat, by rw [tab_size] at h; exact h⟩
  rw [tab_at _ h, e]
  unfold wrap64
  omega
set_option maxHeartbeats 4000000 in
set_option maxRecDepth 100000 in
theorem len64_any (x : Int) (w : World) (h0 : 0 ≤ x) (h1 : x ≤ 18446744073709551615) :
    Calls Try.prog 75 #[.int .u64 x] w fun e w' => e = .returned (.int .i64 (Lib.bitLen x.toNat)) ∧ w = w' := by
  have hsz : (Lib.len8tab.size : Int) = 256 := by rw [tab_size]; rfl
  go_enter Try.func75, Try.ntmps75
  go_wp2
  all_goals (go_ret; refine ⟨ret_int ?_, rfl⟩)
  · exact tab_close 56 _ _ _ (by omega) (by rw [show (x / 4294967296 / 65536 / 256).toNat = x.toNat / 72057594037927936 from by omega]; exact Lib.bitLen_shift56 _ (by omega) (by omega))
  · exact tab_close 48 _ _ _ (by omega) (by rw [show (x / 4294967296 / 65536).toNat = x.toNat / 281474976710656 from by omega]; exact Lib.bitLen_shift48 _ (by omega) (by omega))
  · exact tab_close 40 _ _ _ (by omega) (by rw [show (x / 4294967296 / 256).toNat = x.toNat / 1099511627776 from by omega]; exact Lib.bitLen_shift40 _ (by omega) (by omega))
  · exact tab_close 32 _ _ _ (by omega) (by rw [show (x / 4294967296).toNat = x.toNat / 4294967296 from by omega]; exact Lib.bitLen_shift32 _ (by omega) (by omega))
  · exact tab_close 24 _ _ _ (by omega) (by rw [show (x / 65536 / 256).toNat = x.toNat / 16777216 from by omega]; exact Lib.bitLen_shift24 _ (by omega) (by omega))
  · exact tab_close 16 _ _ _ (by omega) (by rw [show (x / 65536).toNat = x.toNat / 65536 from by omega]; exact Lib.bitLen_shift16 _ (by omega) (by omega))
  · exact tab_close 8 _ _ _ (by omega) (by rw [show (x / 256).toNat = x.toNat / 256 from by omega]; exact Lib.bitLen_shift8 _ (by omega) (by omega))
  · have := tab_close 0 x x.toNat (by rw [tab_size]; omega) (by omega) (by omega)
    rw [← this]
    simp

theorem bitLen_pos (x : Nat) (h : 0 < x) (hx : x < 2 ^ 64) : 1 ≤ Lib.bitLen x := by rw [Lib.bitLen_half x (by omega) hx]; omega
theorem bitLen_ge (x k : Nat) (h : B.P2 k ≤ x) (hx : x < 2 ^ 64) : k + 1 ≤ Lib.bitLen x := by
  rw [Lib.bitLen_shift k x h hx]
  have h1 : 0 < x / 2 ^ k := Nat.div_pos h (Nat.two_pow_pos k)
  have h2 : x / 2 ^ k < 2 ^ 64 := Nat.lt_of_le_of_lt (Nat.div_le_self _ _) hx
  have := bitLen_pos _ h1 h2
  omega
theorem bitLen_iff (x k : Nat) (hk : k ≤ 64) (hx : x < 2 ^ 64) : Lib.bitLen x ≤ k ↔ x < B.P2 k := by
  constructor
  · intro h
    apply Nat.lt_of_not_le
    intro h2
    have := bitLen_ge x k h2 hx
    omega
  · intro h; exact Lib.bitLen_le x k hk h
/-- how far a number is from 0, or from -1 -/
def mag (v : Int) : Nat := if v < 0 then (-v - 1).toNat else v.toNat
def wd (v : Int) : Nat := if v = 0 then 0 else Lib.bitLen (mag v) + 1
def pw (v : Int) : Nat := Lib.bitLen v.toNat
theorem mag_lt (v : Int) (h0 : -9223372036854775808 ≤ v) (h1 : v ≤ 9223372036854775807) : mag v < 9223372036854775808 := by unfold mag; split <;> omega
theorem mag_fits (v : Int) (p : Nat) : mag v < p ↔ -(p : Int) ≤ v ∧ v < p := by unfold mag; split <;> omega
theorem wd_iff (v : Int) (n : Nat) (hv : v ≠ 0) (h0 : -9223372036854775808 ≤ v) (h1 : v ≤ 9223372036854775807) (hn : n ≤ 63) : wd v ≤ n + 1 ↔ -(B.P2 n : Int) ≤ v ∧ v < B.P2 n := by
  have hm := mag_lt v h0 h1
  rw [← mag_fits, ← bitLen_iff (mag v) n (by omega) (by omega), wd, if_neg hv]
  omega
theorem wd_le (v : Int) (h0 : -9223372036854775808 ≤ v) (h1 : v ≤ 9223372036854775807) : wd v ≤ 64 := by
  unfold wd
  split
  · omega
  · have hm := mag_lt v h0 h1
    have := (bitLen_iff (mag v) 63 (by omega) (by omega)).2 hm
    omega
theorem wd_pos (v : Int) (hv : v ≠ 0) : 1 ≤ wd v := by unfold wd; rw [if_neg hv]; omega
theorem wd_zero : wd 0 = 0 := rfl

theorem xor_neg1 (v : Int) (h0 : -9223372036854775808 ≤ v) (h1 : v ≤ 9223372036854775807) : bits .xor .i64 (-1) v = -v - 1 := by
  show IntKind.i64.wrap ((BitVec.ofInt 64 (-1) ^^^ BitVec.ofInt 64 v).toNat : Int) = _
  have e1 : BitVec.ofInt 64 (-1) = BitVec.allOnes 64 := by decide
  rw [e1, BitVec.allOnes_xor, BitVec.toNat_not, BitVec.toNat_ofInt, IntKind.wrap_i64]
  have e2 : ((2 ^ 64 : Nat) : Int) = 18446744073709551616 := rfl
  have e3 : (2 : Nat) ^ 64 = 18446744073709551616 := rfl
  rw [e2, e3]
  omega
theorem u64_wrap (x : Int) (h0 : 0 ≤ x) (h1 : x ≤ 18446744073709551615) : IntKind.u64.wrap x = x := by rw [IntKind.wrap_u64]; omega
theorem width_any (v : Int) (w : World) (h0 : -9223372036854775808 ≤ v) (h1 : v ≤ 9223372036854775807) :
    Calls Try.prog 60 #[.int .i64 v] w fun e w' => e = .returned (.int .i64 (wd v : Int)) ∧ w = w' := by
  have hw := wd_le v h0 h1
  by_cases hp : 0 < v
  · have HE : Hid (Lib.bitLen v.toNat + 1 = wd v) := Lib.hid (by unfold wd mag; rw [if_neg (by omega), if_neg (by omega)])
    have hb : Lib.bitLen v.toNat ≤ 64 := by have := HE.out; omega
    have HL := fun w => len64_any v w (by omega) (by omega)
    generalize Lib.bitLen v.toNat = y at *
    have HL2 := Lib.hid HL
    clear HL
    go_enter Try.func60, Try.ntmps60
    go_wp2_with (go_at_call 75; refine (HL2.out _).mono ?_; rintro e w' ⟨rfl, rfl⟩)
    go_ret
    exact ⟨ret_int (by have := HE.out; omega), rfl⟩
  · by_cases hn : v < 0
    · have HE : Hid (Lib.bitLen (-v - 1).toNat + 1 = wd v) := Lib.hid (by unfold wd mag; rw [if_neg (by omega), if_pos (by omega)])
      have hb : Lib.bitLen (-v - 1).toNat ≤ 64 := by have := HE.out; omega
      have HL := fun w => len64_any (-v - 1) w (by omega) (by omega)
      generalize Lib.bitLen (-v - 1).toNat = y at *
      have HL2 := Lib.hid HL
      clear HL
      go_enter Try.func60, Try.ntmps60
      go_wp2_with fail
      rw [xor_neg1 v h0 h1, u64_wrap _ (by omega) (by omega)]
      refine (HL2.out _).mono ?_
      rintro e w' ⟨rfl, rfl⟩
      go_wp2
      go_ret
      exact ⟨ret_int (by have := HE.out; omega), rfl⟩
    · obtain rfl : v = 0 := by omega
      go_enter Try.func60, Try.ntmps60
      go_wp2
      go_ret
      exact ⟨rfl, rfl⟩
def WdRel (v : Int) (n : Value) : Prop := ∃ k : Nat, k ≤ wd v ∧ n = .int .i64 k
set_option maxHeartbeats 1000000 in
theorem refwidth_any (v : Int) (w : World) (h0 : -9223372036854775808 ≤ v) (h1 : v ≤ 9223372036854775807) :
    Calls Try.prog 78 #[.int .i64 v] w fun e w' => e = .returned (.int .i64 (wd v : Int)) ∧ w = w' := by
  have hw := wd_le v h0 h1
  have HI := Lib.hid (wd_iff v)
  go_enter Try.func78, Try.ntmps78
  go_wp2
  go_loop [3] (fun n => WdRel v n) (fun n => 65 - (intOf n).toNat)
  case atStart => exact ⟨0, by omega, rfl⟩
  case round =>
    obtain ⟨k, hk, rfl⟩ := hrel
    by_cases hv : v = 0
    · subst hv
      rw [wd_zero] at hk
      obtain rfl : k = 0 := by omega
      clear HI
      go_wp2
      go_ret
      exact ⟨rfl, rfl⟩
    · have hvb : (v != 0) = true := by rw [bne_iff_ne]; exact hv
      by_cases k0 : k = 0
      · subst k0
        have hwp := wd_pos v hv
        clear HI
        go_wp2
        go_round
        case rel => exact ⟨1, by omega, rfl⟩
        case measure => simp [intOf]
      · by_cases k64 : k = 64
        · subst k64
          have HZ : Hid (wd v = 64) := Lib.hid (by omega)
          clear HI
          go_wp2
          go_ret
          exact ⟨ret_int (by rw [HZ.out]; rfl), rfl⟩
        · by_cases k63 : k = 63
          · subst k63
            have hi := HI.out 62 hv h0 h1 (by omega)
            have h62 : B.P2 62 = 4611686018427387904 := rfl
            rw [h62] at hi
            clear HI h62
            by_cases hf : -4611686018427387904 ≤ v
            · by_cases hg : v < 4611686018427387904
              · have HZ : Hid (wd v = 63) := Lib.hid (by have := hi.2 ⟨hf, hg⟩; omega)
                clear hi
                go_wp2
                go_ret
                exact ⟨ret_int (by rw [HZ.out]; rfl), rfl⟩
              · have HZ : Hid (64 ≤ wd v) := Lib.hid (by apply Nat.le_of_not_lt; intro h; have := (hi.1 (by omega)).2; omega)
                clear hi
                go_wp2
                go_round
                case rel => exact ⟨64, HZ.out, rfl⟩
                case measure => simp [intOf]
            · have HZ : Hid (64 ≤ wd v) := Lib.hid (by apply Nat.le_of_not_lt; intro h; have := (hi.1 (by omega)).1; omega)
              clear hi
              go_wp2
              go_round
              case rel => exact ⟨64, HZ.out, rfl⟩
              case measure => simp [intOf]
          · have k1 : 1 ≤ k := by omega
            have k2 : k ≤ 62 := by omega
            have hi := HI.out (k - 1) hv h0 h1 (by omega)
            rw [show k - 1 + 1 = k by omega] at hi
            have HP := fun w => power_any (k - 1) w (by omega)
            rw [show ((k - 1 : Nat) : Int) = (k : Int) - 1 by omega] at HP
            have hpb : B.P2 (k - 1) ≤ 4611686018427387904 := P2_bd (by omega)
            generalize B.P2 (k - 1) = y at *
            have HP2 := Lib.hid HP
            have e63 : ((k : Int) == 63) = false := by rw [beq_eq_false_iff_ne]; omega
            clear HI HP k0 k64 k63
            by_cases hf : -(y : Int) ≤ v
            · by_cases hg : v < y
              · have HZ : Hid (wd v = k) := Lib.hid (by have := hi.2 ⟨hf, hg⟩; omega)
                clear hi
                go_wp2_with (go_at_call 79; refine (HP2.out _).mono ?_; rintro e w' ⟨rfl, rfl⟩)
                go_ret
                exact ⟨ret_int (by rw [HZ.out]), rfl⟩
              · have hgb : decide (v < (y : Int)) = false := by simp; omega
                have HZ : Hid (k + 1 ≤ wd v) := Lib.hid (by apply Nat.le_of_not_lt; intro h; have := (hi.1 (by omega)).2; omega)
                clear hi
                go_wp2_with (go_at_call 79; refine (HP2.out _).mono ?_; rintro e w' ⟨rfl, rfl⟩)
                go_round
                case rel => exact ⟨k + 1, HZ.out, by go_num⟩
                case measure => simp [intOf]; omega
            · have hgb : decide (-(y : Int) ≤ v) = false := by simp; omega
              have HZ : Hid (k + 1 ≤ wd v) := Lib.hid (by apply Nat.le_of_not_lt; intro h; have := (hi.1 (by omega)).1; omega)
              clear hi
              go_wp2_with (go_at_call 79; refine (HP2.out _).mono ?_; rintro e w' ⟨rfl, rfl⟩)
              go_round
              case rel => exact ⟨k + 1, HZ.out, by go_num⟩
              case measure => simp [intOf]; omega
end Go.Proofs.Ytfaipbdkkkhacaa
/- Layer 2: PutPlain, PutSigned. -/
namespace Go.Proofs.Ytfaipbdkkkhacaa
open Go.RowKit
set_option linter.unusedVariables false

/-- the free bits of a writer, or 0 if it is not as it must be -/
def nf (s : ByteArray) (f : Int) : Nat := if 0 < f ∧ f ≤ 7 ∧ 0 < s.size ∧ B.bv s.data.toList % B.P2 f.toNat = 0 then f.toNat else 0
theorem nf_snd (s : ByteArray) (f : Int) : B.Snd s.data.toList (nf s f) := by
  unfold nf
  split
  · rename_i h
    refine ⟨by omega, by rw [bytes_length]; omega, h.2.2.2⟩
  · exact ⟨by omega, by omega, by rw [B.P2_zero, Nat.mod_one]⟩
theorem nf_of_snd (s : ByteArray) (f : Nat) (h : B.Snd s.data.toList f) : nf s f = f := by
  unfold nf
  have h2 := h.2.1
  rw [bytes_length] at h2
  by_cases e : f = 0
  · subst e; rw [if_neg (by omega)]
  · rw [if_pos ⟨by omega, by have := h.1; omega, by omega, by rw [Int.toNat_natCast]; exact h.2.2⟩, Int.toNat_natCast]
theorem last_mod_bs (s : ByteArray) (m : Nat) (hm : m < s.size) (hm2 : s.size ≤ m + 1) (f : Nat) (hf : f ≤ 8) : B.bv s.data.toList % B.P2 f = s[m].toNat % B.P2 f := by
  have e := B.last_mod (s.data.toList.take m) s[m] f hf
  rw [← split_last s m hm hm2] at e
  exact e
theorem put_any (s : ByteArray) (f : Int) (v n : Nat) (w : World) (hs : s.size ≤ 1099511627776) (hn : n ≤ 31) (hv : v < B.P2 n) :
    Calls Try.prog 77 #[.agg #[.string s, .int .i64 f], .int .i64 v, .int .i64 n] w fun e w' => e = .returned (.agg #[.string (bs (B.putL s.data.toList (nf s f) v n)), .int .i64 (B.putF s.size (nf s f) n : Int)]) ∧ Below w.heap.size w w' := by
  have hv2 : v < 2147483648 := Nat.lt_of_lt_of_le hv (B.P2_le (b := 31) hn)
  by_cases h0 : f = 0
  · subst h0
    rw [show nf s 0 = 0 from rfl]
    exact put_zero s v n w hs hn hv2 (Lib.hid hv)
  by_cases h1 : f < 0 ∨ 7 < f
  · rw [show nf s f = 0 by unfold nf; rw [if_neg (by omega)]]
    exact put_unsound s f v n w hs hn hv2 (Lib.hid hv) (Lib.hid fun w => sound_out s f w h1)
  by_cases h2 : s.size = 0
  · rw [show nf s f = 0 by unfold nf; rw [if_neg (by omega)]]
    exact put_unsound s f v n w hs hn hv2 (Lib.hid hv) (Lib.hid fun w => sound_empty s f w (by omega) (by omega) h2)
  obtain ⟨F, rfl⟩ := Int.eq_ofNat_of_zero_le (show 0 ≤ f by omega)
  obtain ⟨m, hm⟩ : ∃ m, m + 1 = s.size := ⟨s.size - 1, by omega⟩
  have e := last_mod_bs s m (by omega) (by omega) F (by omega)
  have HS := fun w => sound_last s F m w (by omega) (by omega) (by omega) (by omega) hs
  rw [← e] at HS
  by_cases h3 : B.bv s.data.toList % B.P2 F = 0
  · rw [show nf s F = F by unfold nf; rw [if_pos ⟨by omega, by omega, by omega, h3⟩]; rfl]
    rw [decide_eq_true h3] at HS
    exact put_part s F m v n w hs hn hv2 (Lib.hid hv) (by omega) (by omega) (by omega) (by omega) (Lib.hid HS)
  · rw [show nf s F = 0 by unfold nf; rw [if_neg (by intro k; exact h3 k.2.2.2)]]
    rw [decide_eq_false h3] at HS
    exact put_unsound s F v n w hs hn hv2 (Lib.hid hv) (Lib.hid HS)

theorem putplain_post {Q : Ending → World → Prop} {a : Act} {W : World} {g : Nat} {x y v : Value} (hbox : Box W g x y) (h6 : a.tmps[6]?.getD undef = .pointer (some ⟨g, 0, none⟩)) (h7 : a.tmps[7]?.getD undef = v)
    (hd : a.defers = []) (hQ : Q (.returned (.tuple #[.agg #[x, y], v])) W) : bodyPost Try.prog Try.f61 Q Exit.ret a W :=
  bodyPost_ret (v := .tuple #[.agg #[x, y], v]) (by simp [results, Try.results61, go_sem, h6, h7, hbox.1, hbox.2.1]) hd hQ
theorem putsigned_post {Q : Ending → World → Prop} {a : Act} {W : World} {g : Nat} {x y v : Value} (hbox : Box W g x y) (h6 : a.tmps[6]?.getD undef = .pointer (some ⟨g, 0, none⟩)) (h7 : a.tmps[7]?.getD undef = v)
    (hd : a.defers = []) (hQ : Q (.returned (.tuple #[.agg #[x, y], v])) W) : bodyPost Try.prog Try.f62 Q Exit.ret a W :=
  bodyPost_ret (v := .tuple #[.agg #[x, y], v]) (by simp [results, Try.results62, go_sem, h6, h7, hbox.1, hbox.2.1]) hd hQ
def errW : Value := .tuple #[.agg #[.string ⟨#[]⟩, .int .i64 0], .int .i64 1]
theorem box2_now (w : World) (x y x' y' : Value) (t t' : TypeId) : Box ((w.alloc (.cells #[x, y] t)).alloc (.cells #[x', y'] t')) w.heap.size x y ∧ Box ((w.alloc (.cells #[x, y] t)).alloc (.cells #[x', y'] t')) (w.heap.size + 1) x' y' ∧ Below w.heap.size w ((w.alloc (.cells #[x, y] t)).alloc (.cells #[x', y'] t')) :=
  box2_kept (bq_refl _)
theorem putplain_bad (s : ByteArray) (f v n : Int) (w : World) (h : n < 0 ∨ 31 < n ∨ v < 0) :
    Calls Try.prog 61 #[.agg #[.string s, .int .i64 f], .int .i64 v, .int .i64 n] w fun e w' => e = .returned errW ∧ Below w.heap.size w w' := by
  obtain ⟨C, D, H⟩ := box2_now w (.string s) (.int .i64 f) (.string ⟨#[]⟩) (.int .i64 0) 23 23
  have HC := Lib.hid C
  have HD := Lib.hid D
  have HH := Lib.hid H
  clear C D H
  by_cases hn : n < 0 ∨ 31 < n
  · have HN := Lib.hid hn
    clear hn h
    go_enter Try.func61, Try.ntmps61
    go_wp2_with fail
    refine (isfield_no n _ HN.out).mono ?_
    rintro e w1 ⟨rfl, rfl⟩
    go_wp2_with fail
    exact bodyPost_ret (v := errW) (by simp [results, Try.results61, go_sem, errW]) rfl ⟨rfl, HH.out⟩
  · have hv : v < 0 := by omega
    have n0 : 0 ≤ n := by omega
    have n1 : n ≤ 31 := by omega
    clear hn h
    go_enter Try.func61, Try.ntmps61
    go_wp2_with fail
    refine (isfield_yes n _ n0 n1).mono ?_
    rintro e w1 ⟨rfl, rfl⟩
    go_wp2_with fail
    exact bodyPost_ret (v := errW) (by simp [results, Try.results61, go_sem, errW]) rfl ⟨rfl, HH.out⟩
theorem putplain_nat (s : ByteArray) (f : Int) (v n : Nat) (w : World) (hs : s.size ≤ 1099511627776) (hn : n ≤ 31) :
    Calls Try.prog 61 #[.agg #[.string s, .int .i64 f], .int .i64 v, .int .i64 n] w fun e w' =>
      e = .returned (if v < B.P2 n then .tuple #[.agg #[.string (bs (B.putL s.data.toList (nf s f) v n)), .int .i64 (B.putF s.size (nf s f) n : Int)], .int .i64 0] else errW) ∧ Below w.heap.size w w' := by
  have hpb : B.P2 n ≤ 2147483648 := B.P2_le (b := 31) hn
  have e2 : wrap64 (2 ^ n) = (B.P2 n : Int) := by rw [P2_cast]; exact i64_id _ (by omega) (by omega)
  by_cases hv : v < B.P2 n
  · rw [if_pos hv]
    have HP := Lib.hid (fun w => put_any s f v n w hs hn hv)
    have hb : decide (wrap64 (2 ^ n) ≤ (v : Int)) = false := by rw [e2]; simp; omega
    clear e2
    go_enter Try.func61, Try.ntmps61
    go_wp2_with fail
    refine (isfield_yes n _ (by omega) (by omega)).mono ?_
    rintro e w1 ⟨rfl, rfl⟩
    go_wp2_with fail
    refine (HP.out _).mono ?_
    rintro e w1 ⟨rfl, hb1⟩
    obtain ⟨⟨c0, c1, f0, f1, cz⟩, ⟨d0, d1, g0, g1, hz⟩, H⟩ := box2_kept hb1
    have H1 := Lib.hid H
    clear hb1 H
    go_wp2_with fail
    exact putplain_post ((Box.set0 ⟨d0, d1, g0, g1, hz⟩ _).set1 _) rfl rfl rfl ⟨rfl, bq_set (bq_set H1.out _ (by simp) _) _ (by simp) _⟩
  · rw [if_neg hv]
    have hb : decide (wrap64 (2 ^ n) ≤ (v : Int)) = true := by rw [e2]; simp; omega
    clear e2
    go_enter Try.func61, Try.ntmps61
    go_wp2_with fail
    refine (isfield_yes n _ (by omega) (by omega)).mono ?_
    rintro e w1 ⟨rfl, rfl⟩
    go_wp2_with fail
    exact bodyPost_ret (v := errW) (by simp [results, Try.results61, go_sem, errW]) rfl ⟨rfl, (box2_now w _ _ _ _ _ _).2.2⟩
/-- the writer behind, if it fits -/
def ppR (s : ByteArray) (f : Int) (v n : Nat) : Value := .tuple #[.agg #[.string (bs (B.putL s.data.toList (nf s f) v n)), .int .i64 (B.putF s.size (nf s f) n : Int)], .int .i64 0]
def ppOk (v n : Int) : Bool := decide (0 ≤ n) && decide (n ≤ 31) && decide (0 ≤ v) && decide (v.toNat < B.P2 n.toNat)
theorem putplain_any (s : ByteArray) (f v n : Int) (w : World) (hs : s.size ≤ 1099511627776) :
    Calls Try.prog 61 #[.agg #[.string s, .int .i64 f], .int .i64 v, .int .i64 n] w fun e w' => e = .returned (if ppOk v n = true then ppR s f v.toNat n.toNat else errW) ∧ Below w.heap.size w w' := by
  by_cases h : 0 ≤ n ∧ n ≤ 31 ∧ 0 ≤ v
  · obtain ⟨N, rfl⟩ := Int.eq_ofNat_of_zero_le h.1
    obtain ⟨V, rfl⟩ := Int.eq_ofNat_of_zero_le h.2.2
    have hp := putplain_nat s f V N w hs (by omega)
    have e : ppOk V N = decide (V < B.P2 N) := by simp [ppOk]; omega
    rw [e]
    simpa [ppR] using hp
  · have e : ppOk v n = false := by
      unfold ppOk
      by_cases h1 : 0 ≤ n <;> by_cases h2 : n ≤ 31 <;> by_cases h3 : 0 ≤ v <;> simp [h1, h2, h3] <;> exact absurd ⟨h1, h2, h3⟩ h
    rw [e]
    exact putplain_bad s f v n w (by omega)

theorem putsigned_bad (s : ByteArray) (f v n : Int) (w : World) (v0 : -9223372036854775808 ≤ v) (v1 : v ≤ 9223372036854775807) (h : n < 0 ∨ 31 < n ∨ n < wd v) :
    Calls Try.prog 62 #[.agg #[.string s, .int .i64 f], .int .i64 v, .int .i64 n] w fun e w' => e = .returned errW ∧ Below w.heap.size w w' := by
  have HH := Lib.hid (box2_now w (.string s) (.int .i64 f) (.string ⟨#[]⟩) (.int .i64 0) 23 23).2.2
  by_cases hn : n < 0 ∨ 31 < n
  · have HN := Lib.hid hn
    clear hn h
    go_enter Try.func62, Try.ntmps62
    go_wp2_with fail
    refine (isfield_no n _ HN.out).mono ?_
    rintro e w1 ⟨rfl, rfl⟩
    go_wp2_with fail
    exact bodyPost_ret (v := errW) (by simp [results, Try.results62, go_sem, errW]) rfl ⟨rfl, HH.out⟩
  · have hv : n < wd v := by omega
    have n0 : 0 ≤ n := by omega
    have n1 : n ≤ 31 := by omega
    have HW := Lib.hid (fun w => width_any v w v0 v1)
    generalize wd v = y at *
    clear hn h
    go_enter Try.func62, Try.ntmps62
    go_wp2_with fail
    refine (isfield_yes n _ n0 n1).mono ?_
    rintro e w1 ⟨rfl, rfl⟩
    go_wp2_with fail
    refine (HW.out _).mono ?_
    rintro e w1 ⟨rfl, rfl⟩
    go_wp2_with fail
    exact bodyPost_ret (v := errW) (by simp [results, Try.results62, go_sem, errW]) rfl ⟨rfl, HH.out⟩
theorem putsigned_ok (s : ByteArray) (f v : Int) (u n : Nat) (w : World) (hs : s.size ≤ 1099511627776) (v0 : -9223372036854775808 ≤ v) (v1 : v ≤ 9223372036854775807) (hn : n ≤ 31) (hw : wd v ≤ n)
    (hu : u < B.P2 n) (HU : Hid (v < 0 ∧ wrap64 (v + wrap64 (2 ^ n)) = u ∨ 0 ≤ v ∧ v = u)) :
    Calls Try.prog 62 #[.agg #[.string s, .int .i64 f], .int .i64 v, .int .i64 n] w fun e w' => e = .returned (ppR s f u n) ∧ Below w.heap.size w w' := by
  have HP := Lib.hid (fun w => put_any s f u n w hs hn hu)
  have HW := Lib.hid (fun w => width_any v w v0 v1)
  generalize wd v = y at *
  clear hu
  unfold ppR
  rcases HU.out with ⟨hv, hw2⟩ | ⟨hv, hw2⟩
  · have HW2 := Lib.hid hw2
    clear hw2 HU
    go_enter Try.func62, Try.ntmps62
    go_wp2_with fail
    refine (isfield_yes n _ (by omega) (by omega)).mono ?_
    rintro e w1 ⟨rfl, rfl⟩
    go_wp2_with fail
    refine (HW.out _).mono ?_
    rintro e w1 ⟨rfl, rfl⟩
    go_wp2_with fail
    rw [HW2.out]
    refine (HP.out _).mono ?_
    rintro e w1 ⟨rfl, hb1⟩
    obtain ⟨⟨c0, c1, f0, f1, cz⟩, ⟨d0, d1, g0, g1, hz⟩, H⟩ := box2_kept hb1
    have H1 := Lib.hid H
    clear hb1 H
    go_wp2_with fail
    exact putsigned_post ((Box.set0 ⟨d0, d1, g0, g1, hz⟩ _).set1 _) rfl rfl rfl ⟨rfl, bq_set (bq_set H1.out _ (by simp) _) _ (by simp) _⟩
  · subst hw2
    clear HU
    go_enter Try.func62, Try.ntmps62
    go_wp2_with fail
    refine (isfield_yes n _ (by omega) (by omega)).mono ?_
    rintro e w1 ⟨rfl, rfl⟩
    go_wp2_with fail
    refine (HW.out _).mono ?_
    rintro e w1 ⟨rfl, rfl⟩
    go_wp2_with fail
    refine (HP.out _).mono ?_
    rintro e w1 ⟨rfl, hb1⟩
    obtain ⟨⟨c0, c1, f0, f1, cz⟩, ⟨d0, d1, g0, g1, hz⟩, H⟩ := box2_kept hb1
    have H1 := Lib.hid H
    clear hb1 H
    go_wp2_with fail
    exact putsigned_post ((Box.set0 ⟨d0, d1, g0, g1, hz⟩ _).set1 _) rfl rfl rfl ⟨rfl, bq_set (bq_set H1.out _ (by simp) _) _ (by simp) _⟩
/-- the bits of a number with a sign, as one without -/
def sgU (v : Int) (n : Nat) : Nat := if v < 0 then (v + B.P2 n).toNat else v.toNat
def psOk (v n : Int) : Bool := decide (0 ≤ n) && decide (n ≤ 31) && decide ((wd v : Int) ≤ n)
theorem sgU_lt (v : Int) (n : Nat) (v0 : -9223372036854775808 ≤ v) (v1 : v ≤ 9223372036854775807) (hn : n ≤ 31) (hw : wd v ≤ n) : sgU v n < B.P2 n ∧ (v < 0 → -(B.P2 n : Int) ≤ 2 * v) ∧ (0 ≤ v → 2 * v < B.P2 n) := by
  by_cases h0 : v = 0
  · subst h0; exact ⟨B.P2_pos n, by omega, by have := B.P2_pos n; omega⟩
  · have hp := wd_pos v h0
    have hi := (wd_iff v (n - 1) h0 v0 v1 (by omega)).1 (by omega)
    have hP := B.P2_succ (n - 1)
    rw [show n - 1 + 1 = n by omega] at hP
    unfold sgU
    split <;> omega
theorem putsigned_any (s : ByteArray) (f v n : Int) (w : World) (hs : s.size ≤ 1099511627776) (v0 : -9223372036854775808 ≤ v) (v1 : v ≤ 9223372036854775807) :
    Calls Try.prog 62 #[.agg #[.string s, .int .i64 f], .int .i64 v, .int .i64 n] w fun e w' => e = .returned (if psOk v n = true then ppR s f (sgU v n.toNat) n.toNat else errW) ∧ Below w.heap.size w w' := by
  by_cases h : 0 ≤ n ∧ n ≤ 31 ∧ (wd v : Int) ≤ n
  · obtain ⟨N, rfl⟩ := Int.eq_ofNat_of_zero_le h.1
    have e : psOk v N = true := by simp [psOk]; omega
    rw [e, if_pos rfl]
    have hu := (sgU_lt v N v0 v1 (by omega) (by omega))
    have hpb : B.P2 N ≤ 2147483648 := B.P2_le (b := 31) (by omega)
    have e2 : wrap64 (2 ^ N) = (B.P2 N : Int) := by rw [P2_cast]; exact i64_id _ (by omega) (by omega)
    refine putsigned_ok s f v (sgU v N) N w hs v0 v1 (by omega) (by omega) hu.1 (Lib.hid ?_)
    rw [e2]
    unfold sgU
    by_cases hv : v < 0
    · left
      have := hu.2.1 hv
      rw [if_pos hv, i64_id _ (by omega) (by omega)]
      omega
    · right
      rw [if_neg hv]
      omega
  · have e : psOk v n = false := by
      unfold psOk
      by_cases h1 : 0 ≤ n <;> by_cases h2 : n ≤ 31 <;> by_cases h3 : (wd v : Int) ≤ n <;> simp [h1, h2, h3] <;> exact absurd ⟨h1, h2, h3⟩ h
    rw [e]
    exact putsigned_bad s f v n w v0 v1 (by omega)
end Go.Proofs.Ytfaipbdkkkhacaa
