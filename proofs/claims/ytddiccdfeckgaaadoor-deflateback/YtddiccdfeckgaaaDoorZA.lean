import Derived.Below
import Derived.Deep.Draws
import Derived.WalkKit
import Derived.ChangeSame
import Derived.OpenShut
import Derived.Carry
import Derived.Test.YtddiccdfeckgaaaDoorProg
import Derived.WalkSpells
import Derived.WalkLawsBesides
import Derived.Laws.BitsAllLaws
import Derived.Lib.Hide
import Derived.Deep.QuietTactic
import Derived.BigQuiet
import Derived.Outline
import Derived.Laws.Rows
import Derived.Laws.Tables
import Derived.Laws.ResultCell
import Derived.Deep.WholeRow
import Derived.Laws.MakeOwn
import Derived.Laws.IdiomStrings
import Derived.ChangeKeysEq
import Derived.Laws.StructEq
import Derived.Deep.Cut
import Derived.Deep.DeepCutAuto
import Derived.Deep.CutBlock
/- Small facts on worlds in which nothing old has turned. -/
namespace Go.Proofs.YtddiccdfeckgaaaDoor
open Go.RowKit
theorem bq_trans {a b c : World} (h : Below a.heap.size a b) (k : Below b.heap.size b c) : Below a.heap.size a c := h.trans (k.mono h.size)
theorem bq_alloc {a b : World} (h : Below a.heap.size a b) (o : Obj) : Below a.heap.size a (b.alloc o) := h.alloc h.size o
theorem bq_drew {a b : World} (h : Below a.heap.size a b) : Below a.heap.size a b.drew := h.drew
theorem bq_drewN {a b : World} (h : Below a.heap.size a b) (n : Nat) : Below a.heap.size a (b.drewN n) := ⟨h.os, h.tape, h.output, h.size, h.block⟩
theorem bq_drawn (w : World) {w' : World} (h : ∃ n, w' = w.drewN n) : Below w.heap.size w w' := by
  obtain ⟨n, rfl⟩ := h
  exact bq_drewN (Below.refl _ _) n
theorem bq_set {a b : World} (h : Below a.heap.size a b) (p : Addr) (hp : a.heap.size ≤ p.block) (v : Value) : Below a.heap.size a (b.setCell p v) := h.setCell hp v
theorem bq_refl (a : World) : Below a.heap.size a a := Below.refl _ _
end Go.Proofs.YtddiccdfeckgaaaDoor
/- The last step of a law's proof: nothing old has turned, the results are read, the arguments read as they did. -/
namespace Go.Proofs.YtddiccdfeckgaaaDoor
open Go.RowKit Go.WideShapes Go.ChangeShapes
theorem post_kept {H : Type} {enc : TypeId × Value → H} {P : Program} {f : Func} {s : ChangeSpec} {apart fresh handsOn : Bool} {W W' : World} {args : Array Value} {v : Value} {ds gs : List (DataW H)} {before pa pv : List MemPlace}
    (hW : DataW.Whole enc P f.params.toList s.vars apart W args.toList ds gs before)
    (hres : ∀ (b : Nat) (sp : Nat → Bool) (hd : Bool), DataW.TrodAll enc P W' b sp hd f.resultTypes.toList (v.resultList f.resultTypes.size) (s.fn H (ds ++ gs)).results [])
    (hargs : ∀ sp : Nat → Bool, (∀ p ∈ before, sp p.block = true) → DataW.TrodAll enc P W' 0 sp true f.params.toList args.toList (s.fn H (ds ++ gs)).args pa)
    (hvars : ∀ sp : Nat → Bool, (∀ p ∈ before, sp p.block = true) → DataW.TrodVars enc P W' sp s.vars (s.fn H (ds ++ gs)).vars pv)
    (hps : before = pa ++ pv) (hb : Below W.heap.size W W') : s.post enc P f apart fresh handsOn false W args v W' := by
  have old : ∀ p ∈ before, (fun b => decide (b < W.heap.size)) p.block = true := fun p hp => by simpa using hW.lt p hp
  refine ⟨ds, gs, before, [], pa, pv, hW, hres _ _ _, hargs _ old, hvars _ old, World.keptBut_mono (fun p hp => ⟨hp, ?_⟩) (hb.frame (· ∈ before)), fun h => by cases h⟩
  rw [hps] at hp
  exact Or.inr (List.mem_append.1 hp)
theorem bd64 {a : Int} (h : (Lit.int .i64 a).wf = true) : -9223372036854775808 ≤ a ∧ a ≤ 9223372036854775807 := bounds_i64 h
theorem bd32 {a : Int} (h : (Lit.int .i32 a).wf = true) : -2147483648 ≤ a ∧ a ≤ 2147483647 := bounds_i32 h
end Go.Proofs.YtddiccdfeckgaaaDoor
/- The last step of a law's proof, whatever its arguments are: nothing old has turned, so each argument reads as it did. -/
namespace Go.Proofs.YtddiccdfeckgaaaDoor
open Go.RowKit Go.WideShapes Go.ChangeShapes
theorem trodAll_below {H : Type} {enc : TypeId × Value → H} {P : Program} (hl : laidOutB P = true) {W W' : World} (hb : Below W.heap.size W W') :
    ∀ (ts : List TypeId) (vs : List Value) (ds : List (DataW H)) (ps : List MemPlace), (∀ t ∈ ts, P.readableRec t = true ∧ t < P.types.size) → (∀ x ∈ ps, x.block < W.heap.size) →
      DataW.TrodAll enc P W 0 (fun _ => true) true ts vs ds ps → DataW.TrodAll enc P W' 0 (fun b => decide (b < W.heap.size)) true ts vs ds ps
  | [], vs, ds, ps, _, _, h => by
    obtain ⟨rfl, rfl, rfl⟩ := trodAll_nil h
    exact trodAll_mk0
  | t :: ts, vs, ds, ps, hr, hlt, h => by
    obtain ⟨v, vs', d, ds', p, q, rfl, rfl, rfl, h0, h1⟩ := trodAll_cons h
    exact trodAll_cons_mk (Below.trod hl (hr t (by simp)).1 (hr t (by simp)).2 h0 hb (fun x hx => hlt x (by simp [hx]))) (trodAll_below hl hb ts vs' ds' q (fun u hu => hr u (by simp [hu])) (fun x hx => hlt x (by simp [hx])) h1)
theorem post_law {H : Type} {enc : TypeId × Value → H} {P : Program} {f : Func} {s : ChangeSpec} {apart fresh handsOn : Bool} {W W' : World} {args : Array Value} {v : Value} {ds gs : List (DataW H)} {before p : List MemPlace}
    (hl : laidOutB P = true) (hr : ∀ t ∈ f.params.toList, P.readableRec t = true ∧ t < P.types.size)
    (hW : DataW.Whole enc P f.params.toList s.vars apart W args.toList ds gs before) (hA : DataW.TrodAll enc P W 0 (fun _ => true) true f.params.toList args.toList ds p) (hp : before = p)
    (hres : ∀ (b : Nat) (sp : Nat → Bool) (hd : Bool), DataW.TrodAll enc P W' b sp hd f.resultTypes.toList (v.resultList f.resultTypes.size) (s.fn H (ds ++ gs)).results [])
    (hargs : (s.fn H (ds ++ gs)).args = ds) (hvars : ∀ sp : Nat → Bool, DataW.TrodVars enc P W' sp s.vars (s.fn H (ds ++ gs)).vars [])
    (hb : Below W.heap.size W W') : s.post enc P f apart fresh handsOn false W args v W' := by
  subst hp
  refine ⟨ds, gs, before, [], before, [], hW, hres _ _ _, ?_, hvars _, World.keptBut_mono (fun q hq => ⟨hq, Or.inr (Or.inl hq)⟩) (hb.frame (· ∈ before)), fun h => by cases h⟩
  rw [hargs]
  exact trodAll_below hl hb _ _ _ _ hr (fun x hx => hW.lt x hx) hA
end Go.Proofs.YtddiccdfeckgaaaDoor
/- Plain facts on powers of two, bytes as a number (the first byte the highest), and fields of their bits. -/
namespace Go.Proofs.YtddiccdfeckgaaaDoor.B

def P2 (n : Nat) : Nat := 2 ^ n
theorem P2_zero : P2 0 = 1 := rfl
theorem P2_succ (n : Nat) : P2 (n + 1) = 2 * P2 n := by unfold P2; rw [Nat.pow_succ]; omega
theorem P2_pos (n : Nat) : 0 < P2 n := Nat.two_pow_pos n
theorem P2_add (a b : Nat) : P2 (a + b) = P2 a * P2 b := Nat.pow_add 2 a b
theorem P2_le {a b : Nat} (h : a ≤ b) : P2 a ≤ P2 b := Nat.pow_le_pow_right (by omega) h
theorem P2_lt {a b : Nat} (h : a < b) : P2 a < P2 b := Nat.pow_lt_pow_right (by omega) h
theorem P2_8 : P2 8 = 256 := rfl
theorem P2_dvd {a b : Nat} (h : a ≤ b) : P2 a ∣ P2 b := Nat.pow_dvd_pow 2 h
theorem P2_sub {a b : Nat} (h : a ≤ b) : P2 b = P2 a * P2 (b - a) := by rw [← P2_add]; congr 1; omega
theorem P2_byte (k : Nat) : P2 (8 * (k + 1)) = 256 * P2 (8 * k) := by rw [show 8 * (k + 1) = 8 + 8 * k by omega, P2_add, P2_8]

theorem div_div (x a b : Nat) : x / P2 a / P2 b = x / P2 (a + b) := by rw [Nat.div_div_eq_div_mul, P2_add]
theorem mod_div (x a b : Nat) : x % P2 (a + b) / P2 a = x / P2 a % P2 b := by rw [P2_add, Nat.mod_mul_right_div_self]
theorem mod_mod {n a : Nat} (x : Nat) (h : n ≤ a) : x % P2 a % P2 n = x % P2 n := Nat.mod_mod_of_dvd x (P2_dvd h)
theorem mod_split (x n m : Nat) : x % P2 (n + m) = x / P2 m % P2 n * P2 m + x % P2 m := by
  rw [Nat.add_comm n m, P2_add, Nat.mod_mul, Nat.mul_comm (P2 m), Nat.add_comm]
theorem div_lt {x a b : Nat} (h : x < P2 (a + b)) : x / P2 a < P2 b := by
  rw [Nat.div_lt_iff_lt_mul (P2_pos a), Nat.mul_comm, ← P2_add]; exact h
theorem mul_add_div (x y m : Nat) (h : y < P2 m) : (x * P2 m + y) / P2 m = x := by
  rw [Nat.mul_comm, Nat.mul_add_div (P2_pos m), Nat.div_eq_of_lt h]; omega
theorem mul_add_mod (x y m : Nat) (h : y < P2 m) : (x * P2 m + y) % P2 m = y := by
  rw [Nat.mul_comm, Nat.mul_add_mod, Nat.mod_eq_of_lt h]

/-- bytes as a number -/
def bv (l : List UInt8) : Nat := l.foldl (fun a b => 256 * a + b.toNat) 0
theorem bv_nil : bv [] = 0 := rfl
theorem bv_snoc (l : List UInt8) (b : UInt8) : bv (l ++ [b]) = 256 * bv l + b.toNat := by simp [bv]
theorem snoc_induct {p : List UInt8 → Prop} (h0 : p []) (h1 : ∀ l b, p l → p (l ++ [b])) (l : List UInt8) : p l := by
  have H : ∀ n (l : List UInt8), l.length = n → p l := by
    intro n
    induction n with
    | zero => intro l h; rw [List.length_eq_zero_iff.1 h]; exact h0
    | succ n ih =>
      intro l h
      have hne : l ≠ [] := by intro e; rw [e] at h; simp at h
      rw [← List.dropLast_concat_getLast hne]
      exact h1 _ _ (ih _ (by simp [h]))
  exact H _ l rfl
theorem bv_append (a b : List UInt8) : bv (a ++ b) = bv a * P2 (8 * b.length) + bv b := by
  induction b using snoc_induct with
  | h0 => simp [bv_nil, P2_zero]
  | h1 l c ih =>
    rw [← List.append_assoc, bv_snoc, bv_snoc, ih, List.length_append, List.length_singleton, P2_byte, Nat.mul_add, Nat.mul_left_comm, Nat.add_assoc]
theorem bv_lt (l : List UInt8) : bv l < P2 (8 * l.length) := by
  induction l using snoc_induct with
  | h0 => simp [bv_nil, P2_zero]
  | h1 l c ih =>
    rw [bv_snoc, List.length_append, List.length_singleton, P2_byte]
    have := c.toNat_lt
    omega
theorem bv_take (l : List UInt8) (k : Nat) : bv (l.take k) = bv l / P2 (8 * (l.length - k)) := by
  have h := bv_append (l.take k) (l.drop k)
  rw [List.take_append_drop, List.length_drop] at h
  have hl := bv_lt (l.drop k)
  rw [List.length_drop] at hl
  rw [h, mul_add_div _ _ _ hl]
theorem bv_drop (l : List UInt8) (k : Nat) : bv (l.drop k) = bv l % P2 (8 * (l.length - k)) := by
  have h := bv_append (l.take k) (l.drop k)
  rw [List.take_append_drop, List.length_drop] at h
  have hl := bv_lt (l.drop k)
  rw [List.length_drop] at hl
  rw [h, mul_add_mod _ _ _ hl]

/-- the bytes of a number, so many -/
def enc : Nat → Nat → List UInt8
  | 0, _ => []
  | m + 1, x => enc m (x / 256) ++ [UInt8.ofNat (x % 256)]
theorem enc_len (m x : Nat) : (enc m x).length = m := by
  induction m generalizing x with
  | zero => rfl
  | succ m ih => simp [enc, ih]
theorem ofNat_toNat (x : Nat) (h : x < 256) : (UInt8.ofNat x).toNat = x := by simp; omega
theorem enc_snoc (m : Nat) (x : Nat) (b : UInt8) : enc (m + 1) (256 * x + b.toNat) = enc m x ++ [b] := by
  have := b.toNat_lt
  rw [enc, show (256 * x + b.toNat) / 256 = x by omega, show (256 * x + b.toNat) % 256 = b.toNat by omega]
  simp
theorem enc_bv (l : List UInt8) : enc l.length (bv l) = l := by
  induction l using snoc_induct with
  | h0 => rfl
  | h1 l c ih => rw [bv_snoc, List.length_append, List.length_singleton, enc_snoc, ih]
theorem bv_enc (m x : Nat) (h : x < P2 (8 * m)) : bv (enc m x) = x := by
  induction m generalizing x with
  | zero => rw [Nat.mul_zero, P2_zero] at h; simp [enc, bv_nil]; omega
  | succ m ih =>
    rw [P2_byte] at h
    rw [enc, bv_snoc, ih _ (by omega), ofNat_toNat _ (Nat.mod_lt _ (by omega))]
    omega
theorem bv_inj {a b : List UInt8} (hl : a.length = b.length) (h : bv a = bv b) : a = b := by
  rw [← enc_bv a, ← enc_bv b, hl, h]
theorem enc_append (a b x y : Nat) (h : y < P2 (8 * b)) : enc (a + b) (x * P2 (8 * b) + y) = enc a x ++ enc b y := by
  induction b generalizing y with
  | zero => rw [Nat.mul_zero, P2_zero] at h; simp [enc, P2_zero]; congr 1; omega
  | succ b ih =>
    rw [P2_byte] at h
    rw [P2_byte, show a + (b + 1) = a + b + 1 from rfl, enc, enc]
    have e1 : (x * (256 * P2 (8 * b)) + y) / 256 = x * P2 (8 * b) + y / 256 := by
      rw [Nat.mul_left_comm, Nat.mul_add_div (by omega)]
    have e2 : (x * (256 * P2 (8 * b)) + y) % 256 = y % 256 := by
      rw [Nat.mul_left_comm, Nat.mul_add_mod]
    rw [e1, e2, ih _ (by omega), List.append_assoc]

/-- the field of n bits from bit p on -/
def fld (l : List UInt8) (p n : Nat) : Nat := bv l / P2 (8 * l.length - (p + n)) % P2 n
theorem fld_lt (l : List UInt8) (p n : Nat) : fld l p n < P2 n := Nat.mod_lt _ (P2_pos n)
theorem fld_zero (l : List UInt8) (p : Nat) : fld l p 0 = 0 := by unfold fld; rw [P2_zero, Nat.mod_one]
theorem fld_split (l : List UInt8) (p n m : Nat) (h : p + n + m ≤ 8 * l.length) : fld l p (n + m) = fld l p n * P2 m + fld l (p + n) m := by
  unfold fld
  rw [mod_split, div_div]
  rw [show 8 * l.length - (p + (n + m)) + m = 8 * l.length - (p + n) by omega, show 8 * l.length - (p + n + m) = 8 * l.length - (p + (n + m)) by omega]
theorem fld_number (l : List UInt8) (a b : Nat) (hab : a ≤ b) (hb : b ≤ 8 * l.length) :
    bv ((l.take ((b + 7) / 8)).drop (a / 8)) / P2 (8 * ((b + 7) / 8) - b) % P2 (b - a) = fld l a (b - a) := by
  obtain ⟨e, he⟩ : ∃ e, e = (b + 7) / 8 := ⟨_, rfl⟩
  obtain ⟨f, hf⟩ : ∃ f, f = a / 8 := ⟨_, rfl⟩
  rw [← he, ← hf, bv_drop, bv_take, List.length_take, Nat.min_eq_left (by omega)]
  obtain ⟨d, hd⟩ : ∃ d, d = 8 * e - b := ⟨_, rfl⟩
  rw [← hd, show 8 * (e - f) = d + (8 * (e - f) - d) by omega, mod_div, mod_mod _ (by omega), div_div]
  unfold fld
  rw [show 8 * (l.length - e) + d = 8 * l.length - (a + (b - a)) by omega]
theorem take_drop_snoc (l : List UInt8) (f i : Nat) (hf : f ≤ i) (hi : i < l.length) : (l.take (i + 1)).drop f = (l.take i).drop f ++ [l[i]] := by
  rw [List.take_succ_eq_append_getElem hi, List.drop_append_of_le_length (by simp; omega)]
theorem bv_part_snoc (l : List UInt8) (f i : Nat) (hf : f ≤ i) (hi : i < l.length) : bv ((l.take (i + 1)).drop f) = 256 * bv ((l.take i).drop f) + l[i].toNat := by
  rw [take_drop_snoc l f i hf hi, bv_snoc]
theorem bv_part_nil (l : List UInt8) (f : Nat) : bv ((l.take f).drop f) = 0 := by
  rw [List.drop_eq_nil_of_le (by simp; omega)]; rfl
theorem bv_part_lt (l : List UInt8) (f i k : Nat) (h : i ≤ f + k) : bv ((l.take i).drop f) < P2 (8 * k) := by
  refine Nat.lt_of_lt_of_le (bv_lt _) (P2_le ?_)
  simp only [List.length_drop, List.length_take]
  omega
theorem fld_bit (l : List UInt8) (i : Nat) (h : i / 8 < l.length) : fld l i 1 = l[i / 8].toNat / P2 (7 - i % 8) % 2 := by
  have hk := bv_take l (i / 8 + 1)
  rw [List.take_succ_eq_append_getElem h, bv_snoc] at hk
  unfold fld
  rw [show 8 * l.length - (i + 1) = 8 * (l.length - (i / 8 + 1)) + (7 - i % 8) by omega, ← div_div, ← hk]
  have e : 256 = P2 (7 - i % 8) * P2 (i % 8 + 1) := by rw [← P2_add, show 7 - i % 8 + (i % 8 + 1) = 8 by omega, P2_8]
  rw [e, Nat.mul_assoc, Nat.mul_add_div (P2_pos _), P2_succ]
  show _ % 2 = _
  rw [Nat.mul_assoc, Nat.mul_add_mod]
theorem fld_byte (l : List UInt8) (k : Nat) (h : k < l.length) : fld l (8 * k) 8 = l[k].toNat := by
  have hk := bv_take l (k + 1)
  rw [List.take_succ_eq_append_getElem h, bv_snoc] at hk
  unfold fld
  rw [show 8 * l.length - (8 * k + 8) = 8 * (l.length - (k + 1)) by omega, ← hk, P2_8]
  have := l[k].toNat_lt
  omega
theorem fld_all (l : List UInt8) (p n k : Nat) (hk : k = 8 * l.length - (p + n)) : fld l p n = bv l / P2 k % P2 n := by rw [hk]; rfl

/-- bytes as a number, the first byte the lowest -/
def lv : List UInt8 → Nat
  | [] => 0
  | b :: l => b.toNat + 256 * lv l
theorem lv_snoc (l : List UInt8) (b : UInt8) : lv (l ++ [b]) = lv l + b.toNat * P2 (8 * l.length) := by
  induction l with
  | nil => simp [lv, P2_zero]
  | cons c l ih =>
    rw [List.cons_append, lv, ih, lv, List.length_cons, P2_byte, Nat.mul_add, Nat.mul_left_comm]
    omega
theorem lv_lt (l : List UInt8) : lv l < P2 (8 * l.length) := by
  induction l with
  | nil => simp [lv, P2_zero]
  | cons c l ih =>
    rw [lv, List.length_cons, P2_byte]
    have := c.toNat_lt
    omega
theorem lv_take_succ (l : List UInt8) (k : Nat) (h : k < l.length) : lv (l.take (k + 1)) = lv (l.take k) + l[k].toNat * P2 (8 * k) := by
  rw [List.take_succ_eq_append_getElem h, lv_snoc, List.length_take, Nat.min_eq_left (by omega)]
theorem lv_take_lt (l : List UInt8) (k : Nat) : lv (l.take k) < P2 (8 * k) := by
  refine Nat.lt_of_lt_of_le (lv_lt _) (P2_le ?_)
  rw [List.length_take]; omega
theorem lv_take_all (l : List UInt8) (k : Nat) (h : l.length ≤ k) : lv (l.take k) = lv l := by rw [List.take_of_length_le h]
end Go.Proofs.YtddiccdfeckgaaaDoor.B
/- Plain facts on lengths and the codes of bits that they have. -/
namespace Go.Proofs.YtddiccdfeckgaaaDoor.Hf
set_option linter.unusedVariables false
open Go.Proofs.YtddiccdfeckgaaaDoor.B (P2 P2_zero P2_succ P2_pos P2_add P2_le P2_lt P2_sub)

/-- how many codes of n bits there are -/
def cn (zs : List Int) (n : Nat) : Nat := if n = 0 then 0 else zs.countP (fun z => z == (n : Int))
theorem cn_zero (zs : List Int) : cn zs 0 = 0 := rfl
theorem cn_nil (n : Nat) : cn [] n = 0 := by unfold cn; split <;> simp
theorem cn_snoc (zs : List Int) (z : Int) (n : Nat) : cn (zs ++ [z]) n = cn zs n + if 0 < n ∧ z = (n : Int) then 1 else 0 := by
  unfold cn
  by_cases h0 : n = 0
  · rw [if_pos h0, if_pos h0, if_neg (by omega)]
  · rw [if_neg h0, if_neg h0, List.countP_append, List.countP_cons, List.countP_nil]
    by_cases h : z = (n : Int)
    · rw [if_pos (by simp [h]), if_pos ⟨by omega, h⟩]
    · rw [if_neg (by simp [h]), if_neg (by simp [h])]
theorem cn_take (zs : List Int) (k n : Nat) (h : k < zs.length) : cn (zs.take (k + 1)) n = cn (zs.take k) n + if 0 < n ∧ zs[k] = (n : Int) then 1 else 0 := by
  rw [List.take_succ_eq_append_getElem h, cn_snoc]
theorem cn_mono (zs : List Int) (n i j : Nat) (h : i ≤ j) (hj : j ≤ zs.length) : cn (zs.take i) n ≤ cn (zs.take j) n := by
  induction j with
  | zero => have : i = 0 := by omega
            subst this; exact Nat.le_refl _
  | succ j ih =>
    by_cases e : i = j + 1
    · subst e; exact Nat.le_refl _
    · have := ih (by omega) (by omega)
      rw [cn_take zs j n (by omega)]
      omega
theorem cn_le (zs : List Int) (n i : Nat) (h : i ≤ zs.length) : cn (zs.take i) n ≤ cn zs n := by
  have := cn_mono zs n i zs.length h (Nat.le_refl _)
  rwa [List.take_length] at this
theorem cn_lt (zs : List Int) (i : Nat) (h : i < zs.length) (h0 : 0 < zs[i]) : cn (zs.take i) zs[i].toNat < cn zs zs[i].toNat := by
  have h1 := cn_le zs zs[i].toNat (i + 1) (by omega)
  rw [cn_take zs i _ h, if_pos ⟨by omega, by omega⟩] at h1
  omega
theorem cn_lt2 (zs : List Int) (i j : Nat) (hij : i < j) (h : j < zs.length) (h0 : 0 < zs[i]) : cn (zs.take i) zs[i].toNat < cn (zs.take j) zs[i].toNat := by
  have h1 := cn_mono zs zs[i].toNat (i + 1) j (by omega) (by omega)
  rw [cn_take zs i _ (by omega), if_pos ⟨by omega, by omega⟩] at h1
  omega
theorem cn_len (zs : List Int) (n : Nat) : cn zs n ≤ zs.length := by
  unfold cn; split
  · omega
  · exact List.countP_le_length
/-- each place among those of one length is some symbol's -/
theorem rank_sur (zs : List Int) (n j : Nat) (h : j < cn zs n) : ∃ k, ∃ hk : k < zs.length, zs[k] = (n : Int) ∧ 0 < n ∧ cn (zs.take k) n = j := by
  have H : ∀ m, m ≤ zs.length → j < cn (zs.take m) n → ∃ k, ∃ hk : k < zs.length, zs[k] = (n : Int) ∧ 0 < n ∧ cn (zs.take k) n = j := by
    intro m
    induction m with
    | zero => intro _ h; rw [List.take_zero, cn_nil] at h; omega
    | succ m ih =>
      intro hm h
      by_cases hj : j < cn (zs.take m) n
      · exact ih (by omega) hj
      · rw [cn_take zs m n (by omega)] at h
        by_cases hc : 0 < n ∧ zs[m] = (n : Int)
        · rw [if_pos hc] at h
          exact ⟨m, by omega, hc.2, hc.1, by omega⟩
        · rw [if_neg hc] at h
          omega
  exact H zs.length (Nat.le_refl _) (by rwa [List.take_length])

/-- where the codes of n bits begin among all; their first one; what shorter ones take -/
def st (zs : List Int) : Nat → Nat
  | 0 => 0
  | n + 1 => st zs n + cn zs n
def fs (zs : List Int) : Nat → Nat
  | 0 => 0
  | n + 1 => 2 * (fs zs n + cn zs n)
def sk (zs : List Int) : Nat → Nat
  | 0 => 0
  | n + 1 => sk zs n + cn zs n * P2 (15 - n)
theorem st_succ (zs : List Int) (n : Nat) : st zs (n + 1) = st zs n + cn zs n := rfl
theorem fs_succ (zs : List Int) (n : Nat) : fs zs (n + 1) = 2 * (fs zs n + cn zs n) := rfl
theorem sk_succ (zs : List Int) (n : Nat) : sk zs (n + 1) = sk zs n + cn zs n * P2 (15 - n) := rfl
theorem st_mono (zs : List Int) {a b : Nat} (h : a ≤ b) : st zs a ≤ st zs b := by
  induction b with
  | zero => have : a = 0 := by omega
            subst this; exact Nat.le_refl _
  | succ b ih =>
    by_cases e : a = b + 1
    · subst e; exact Nat.le_refl _
    · have := ih (by omega); rw [st_succ]; omega
theorem sk_mono (zs : List Int) {a b : Nat} (h : a ≤ b) : sk zs a ≤ sk zs b := by
  induction b with
  | zero => have : a = 0 := by omega
            subst this; exact Nat.le_refl _
  | succ b ih =>
    by_cases e : a = b + 1
    · subst e; exact Nat.le_refl _
    · have := ih (by omega); rw [sk_succ]; omega
theorem fs_sk (zs : List Int) (n : Nat) (h : n ≤ 15) : fs zs n * P2 (15 - n) = sk zs n := by
  induction n with
  | zero => simp [fs, sk]
  | succ n ih =>
    have e : P2 (15 - n) = 2 * P2 (15 - (n + 1)) := by rw [← P2_succ]; congr 1; omega
    have := ih (by omega)
    rw [fs_succ, sk_succ, ← this, e, ← Nat.add_mul, Nat.mul_comm 2 (fs zs n + cn zs n), Nat.mul_assoc]
theorem fs_cn_sk (zs : List Int) (n : Nat) (h : n ≤ 15) : (fs zs n + cn zs n) * P2 (15 - n) = sk zs (n + 1) := by
  rw [Nat.add_mul, fs_sk zs n h, sk_succ]
theorem snoc_induct {p : List Int → Prop} (h0 : p []) (h1 : ∀ l b, p l → p (l ++ [b])) (l : List Int) : p l := by
  have H : ∀ n (l : List Int), l.length = n → p l := by
    intro n
    induction n with
    | zero => intro l h; rw [List.length_eq_zero_iff.1 h]; exact h0
    | succ n ih =>
      intro l h
      have hne : l ≠ [] := by intro e; rw [e] at h; simp at h
      rw [← List.dropLast_concat_getLast hne]
      exact h1 _ _ (ih _ (by simp [h]))
  exact H _ l rfl
theorem st_snoc (zs : List Int) (z : Int) (N : Nat) : st (zs ++ [z]) N = st zs N + if 0 < z ∧ z < (N : Int) then 1 else 0 := by
  induction N with
  | zero => rw [if_neg (by omega)]; rfl
  | succ N ih =>
    rw [st_succ, st_succ, ih, cn_snoc]
    by_cases h1 : 0 < N ∧ z = (N : Int)
    · rw [if_neg (by omega), if_pos h1, if_pos (by omega)]; omega
    · rw [if_neg h1]
      by_cases h2 : 0 < z ∧ z < (N : Int)
      · rw [if_pos h2, if_pos (by omega)]; omega
      · rw [if_neg h2, if_neg (by omega)]; omega
theorem sk_snoc (zs : List Int) (z : Int) (N : Nat) : sk (zs ++ [z]) N = sk zs N + if 0 < z ∧ z < (N : Int) then P2 (15 - z.toNat) else 0 := by
  induction N with
  | zero => rw [if_neg (by omega)]; rfl
  | succ N ih =>
    rw [sk_succ, sk_succ, ih, cn_snoc]
    by_cases h1 : 0 < N ∧ z = (N : Int)
    · rw [if_neg (by omega), if_pos h1, if_pos (by omega), Nat.add_mul, Nat.one_mul, h1.2, Int.toNat_natCast]; omega
    · rw [if_neg h1]
      by_cases h2 : 0 < z ∧ z < (N : Int)
      · rw [if_pos h2, if_pos (by omega)]; simp only [Nat.add_zero]; omega
      · rw [if_neg h2, if_neg (by omega)]; simp only [Nat.add_zero]
theorem st_nil (N : Nat) : st [] N = 0 := by
  induction N with
  | zero => rfl
  | succ N ih => rw [st_succ, ih, cn_nil]
theorem sk_nil (N : Nat) : sk [] N = 0 := by
  induction N with
  | zero => rfl
  | succ N ih => rw [sk_succ, ih, cn_nil, Nat.zero_mul]
theorem st_take (zs : List Int) (k N : Nat) (h : k < zs.length) : st (zs.take (k + 1)) N = st (zs.take k) N + if 0 < zs[k] ∧ zs[k] < (N : Int) then 1 else 0 := by
  rw [List.take_succ_eq_append_getElem h, st_snoc]
theorem sk_take (zs : List Int) (k N : Nat) (h : k < zs.length) : sk (zs.take (k + 1)) N = sk (zs.take k) N + if 0 < zs[k] ∧ zs[k] < (N : Int) then P2 (15 - zs[k].toNat) else 0 := by
  rw [List.take_succ_eq_append_getElem h, sk_snoc]
theorem st_len (zs : List Int) (N : Nat) : st zs N ≤ zs.length := by
  induction zs using snoc_induct with
  | h0 => rw [st_nil]; exact Nat.zero_le _
  | h1 l z ih => rw [st_snoc, List.length_append, List.length_singleton]; split <;> omega
theorem sk_len (zs : List Int) (N : Nat) : sk zs N ≤ zs.length * 32768 := by
  induction zs using snoc_induct with
  | h0 => rw [sk_nil]; exact Nat.zero_le _
  | h1 l z ih =>
    rw [sk_snoc, List.length_append, List.length_singleton, Nat.add_mul, Nat.one_mul]
    have : P2 (15 - z.toNat) ≤ 32768 := P2_le (b := 15) (by omega)
    generalize P2 (15 - z.toNat) = q at *
    generalize l.length * 32768 = r at *
    split <;> omega
theorem fs_len (zs : List Int) (n : Nat) (h : n ≤ 15) : fs zs n ≤ zs.length * 32768 := by
  have h1 := fs_sk zs n h
  have h2 := sk_len zs n
  have h3 : fs zs n * 1 ≤ fs zs n * P2 (15 - n) := Nat.mul_le_mul_left _ (P2_pos _)
  omega
theorem cn_st (zs : List Int) (n N : Nat) (h : n < N) : cn zs n ≤ st zs N := by
  have := st_mono zs (a := n + 1) (b := N) (by omega)
  rw [st_succ] at this
  omega
theorem st_cn_le (zs : List Int) (n N : Nat) (h : n < N) : st zs n + cn zs n ≤ st zs N := by
  have := st_mono zs (a := n + 1) (b := N) (by omega)
  rwa [st_succ] at this
/-- shorter codes come ahead of all longer ones -/
theorem fs_up (zs : List Int) (m d : Nat) : (fs zs m + cn zs m) * P2 (d + 1) ≤ fs zs (m + (d + 1)) := by
  induction d with
  | zero => rw [show P2 (0 + 1) = 2 from rfl, fs_succ]; omega
  | succ d ih =>
    rw [P2_succ, show m + (d + 1 + 1) = (m + (d + 1)) + 1 from by omega, fs_succ, Nat.mul_left_comm]
    omega

/-- the code of a symbol -/
def cd (zs : List Int) (i : Nat) : Nat := if zs.getD i 0 = 0 then 0 else fs zs (zs.getD i 0).toNat + cn (zs.take i) (zs.getD i 0).toNat
theorem getD_eq (zs : List Int) (i : Nat) (h : i < zs.length) : zs.getD i 0 = zs[i] := by rw [List.getD_eq_getElem?_getD, List.getElem?_eq_getElem h]; rfl
theorem cd_pos (zs : List Int) (i : Nat) (h : i < zs.length) (h0 : 0 < zs[i]) : cd zs i = fs zs zs[i].toNat + cn (zs.take i) zs[i].toNat := by
  unfold cd; rw [getD_eq zs i h, if_neg (by omega)]
theorem cd_zero (zs : List Int) (i : Nat) (h : i < zs.length) (h0 : zs[i] = 0) : cd zs i = 0 := by
  unfold cd; rw [getD_eq zs i h, if_pos h0]

/-- what the codes ahead of symbol i, of n bits, take: of the first k symbols -/
def ah (zs : List Int) (n : Int) (i : Nat) : Nat → Nat
  | 0 => 0
  | k + 1 => ah zs n i k + if 0 < zs.getD k 0 ∧ (zs.getD k 0 < n ∨ zs.getD k 0 = n ∧ k < i) then P2 (15 - (zs.getD k 0).toNat) else 0
theorem ah_eq (zs : List Int) (n i : Nat) (hn : 0 < n) (k : Nat) (h : k ≤ zs.length) (hi : i ≤ zs.length) : ah zs n i k = sk (zs.take k) n + cn (zs.take (min i k)) n * P2 (15 - n) := by
  induction k with
  | zero => simp [ah, sk_nil, cn_nil]
  | succ k ih =>
    have hk : k < zs.length := by omega
    rw [ah, ih (by omega), sk_take zs k n hk, getD_eq zs k hk]
    by_cases hki : k < i
    · rw [show min i (k + 1) = k + 1 by omega, show min i k = k by omega, cn_take zs k n hk]
      by_cases c1 : zs[k] = (n : Int)
      · rw [if_pos (by omega), if_neg (by omega), if_pos (by omega), Nat.add_mul, Nat.one_mul, c1, Int.toNat_natCast]; omega
      · rw [if_neg (c := 0 < n ∧ zs[k] = (n : Int)) (by omega)]
        by_cases c2 : 0 < zs[k] ∧ zs[k] < (n : Int)
        · rw [if_pos (by omega), if_pos c2]; simp only [Nat.add_zero]; omega
        · rw [if_neg (by omega), if_neg c2]; simp only [Nat.add_zero]
    · rw [show min i (k + 1) = i by omega, show min i k = i by omega]
      by_cases c2 : 0 < zs[k] ∧ zs[k] < (n : Int)
      · rw [if_pos (by omega), if_pos c2]; omega
      · rw [if_neg (by omega), if_neg c2]; omega
theorem ah_cd (zs : List Int) (i : Nat) (h : i < zs.length) (h0 : 0 < zs[i]) (h1 : zs[i] ≤ 15) : ah zs zs[i] i zs.length / P2 (15 - zs[i].toNat) = cd zs i := by
  have e := ah_eq zs zs[i].toNat i (by omega) zs.length (Nat.le_refl _) (by omega)
  rw [show ((zs[i].toNat : Nat) : Int) = zs[i] by omega, List.take_length, show min i zs.length = i by omega, ← fs_sk zs zs[i].toNat (by omega), ← Nat.add_mul] at e
  rw [e, Nat.mul_div_cancel _ (P2_pos _), cd_pos zs i h h0]
theorem ah_le (zs : List Int) (n : Int) (i k : Nat) : ah zs n i k ≤ k * 32768 := by
  induction k with
  | zero => exact Nat.zero_le _
  | succ k ih =>
    rw [ah, Nat.add_mul, Nat.one_mul]
    have : P2 (15 - (zs.getD k 0).toNat) ≤ 32768 := P2_le (b := 15) (by omega)
    generalize P2 (15 - (zs.getD k 0).toNat) = q at *
    generalize k * 32768 = r at *
    split <;> omega

/-- lengths that may be a table -/
def inR (zs : List Int) : Prop := ∀ i (h : i < zs.length), 0 ≤ zs[i] ∧ zs[i] ≤ 15
def tabB (zs : List Int) : Bool := sk zs 16 == 32768 || st zs 16 == 0 || (st zs 16 == 1 && cn zs 1 == 1)
theorem sk_zero (zs : List Int) (N : Nat) : sk zs N = 0 ↔ st zs N = 0 := by
  induction N with
  | zero => simp [sk, st]
  | succ N ih =>
    rw [sk_succ, st_succ]
    have hp := P2_pos (15 - N)
    constructor
    · intro h
      have h1 : sk zs N = 0 := by omega
      have h2 : cn zs N * P2 (15 - N) = 0 := by omega
      rcases Nat.mul_eq_zero.1 h2 with h3 | h3
      · have := ih.1 h1; omega
      · omega
    · intro h
      have h1 : st zs N = 0 := by omega
      have h2 : cn zs N = 0 := by omega
      rw [ih.2 h1, h2, Nat.zero_mul]

theorem st_one (zs : List Int) : (st zs 16 = 1 ∧ cn zs 1 = 1) ↔ (cn zs 1 = 1 ∧ ∀ n, n < 16 → n ≠ 1 → cn zs n = 0) := by
  constructor
  · rintro ⟨h1, h2⟩
    refine ⟨h2, fun n hn h => ?_⟩
    have hz := cn_zero zs
    by_cases hn0 : n = 0
    · rw [hn0, hz]
    · have a1 := st_cn_le zs 1 n (by omega)
      have a2 := st_cn_le zs n 16 hn
      omega
  · rintro ⟨h1, h2⟩
    refine ⟨?_, h1⟩
    have H : ∀ N, 2 ≤ N → N ≤ 16 → st zs N = 1 := by
      intro N
      induction N with
      | zero => intro h; omega
      | succ N ih =>
        intro hN hN2
        rw [st_succ]
        by_cases e : N = 1
        · subst e
          rw [h1, st_succ, cn_zero]
          rfl
        · rw [ih (by omega) (by omega), h2 N (by omega) e]
    exact H 16 (by omega) (by omega)
end Go.Proofs.YtddiccdfeckgaaaDoor.Hf
/- Plain facts on reading a code, bit by bit. -/
namespace Go.Proofs.YtddiccdfeckgaaaDoor.Hf
set_option linter.unusedVariables false
open Go.Proofs.YtddiccdfeckgaaaDoor.B (P2 P2_zero P2_succ P2_pos P2_add P2_le P2_lt P2_sub)

/-- the symbol of n bits that stands j-th among those -/
def sym (zs : List Int) (n j : Nat) : Nat := ((List.range zs.length).find? (fun k => decide (zs.getD k 0 = (n : Int)) && (cn (zs.take k) n == j))).getD 0
theorem sym_at (zs : List Int) (i n : Nat) (h : i < zs.length) (h0 : 0 < n) (hn : zs[i] = (n : Int)) : sym zs n (cn (zs.take i) n) = i := by
  have e : (List.range zs.length).find? (fun k => decide (zs.getD k 0 = (n : Int)) && (cn (zs.take k) n == cn (zs.take i) n)) = some i := by
    rw [List.find?_range_eq_some]
    refine ⟨?_, by simpa using h, ?_⟩
    · rw [getD_eq zs i h]; simp [hn]
    · intro j hj
      have hj2 : j < zs.length := by omega
      rw [getD_eq zs j hj2]
      by_cases hz : zs[j] = (n : Int)
      · have := cn_lt2 zs j i hj h (by omega)
        rw [hz, Int.toNat_natCast] at this
        simp
        right
        omega
      · simp [hz]
  unfold sym
  rw [e]
  rfl
theorem sym_of (zs : List Int) (n j : Nat) (h : j < cn zs n) : ∃ hk : sym zs n j < zs.length, zs[sym zs n j] = (n : Int) ∧ 0 < n ∧ cn (zs.take (sym zs n j)) n = j := by
  obtain ⟨k, hk, h1, h2, h3⟩ := rank_sur zs n j h
  have := sym_at zs k n hk h2 h1
  rw [h3] at this
  rw [this]
  exact ⟨hk, h1, h2, h3⟩

def dec (zs : List Int) (b : Nat → Option Nat) : Nat → Nat → Nat → Nat × Nat × Nat
  | 0, _, _ => (0, 0, 4)
  | k + 1, n, c => if st zs 16 ≤ st zs (n + 1) then (0, 0, 4) else match b n with
    | none => (0, 0, 2)
    | some x => if 2 * c + x < fs zs (n + 1) + cn zs (n + 1) then (sym zs (n + 1) (2 * c + x - fs zs (n + 1)), n + 1, 0) else dec zs b k (n + 1) (2 * c + x)
def decF (zs : List Int) (b : Nat → Option Nat) (n c : Nat) : Nat × Nat × Nat := if c < fs zs n + cn zs n then (sym zs n (c - fs zs n), n, 0) else dec zs b (15 - n) n c
def nx (zs : List Int) (b : Nat → Option Nat) : Nat × Nat × Nat := dec zs b 15 0 0
theorem nx_eq (zs : List Int) (b : Nat → Option Nat) : nx zs b = decF zs b 0 0 := by
  unfold decF; rw [if_neg (by rw [cn_zero]; exact Nat.not_lt_zero _)]; rfl
theorem dec_end (zs : List Int) (b : Nat → Option Nat) (n c : Nat) : dec zs b 0 n c = (0, 0, 4) := rfl
theorem dec_none (zs : List Int) (b : Nat → Option Nat) (k n c : Nat) (h : st zs 16 ≤ st zs (n + 1)) : dec zs b k n c = (0, 0, 4) := by
  cases k with
  | zero => rfl
  | succ k => rw [dec, if_pos h]
theorem dec_short (zs : List Int) (b : Nat → Option Nat) (n c : Nat) (hn : n < 15) (h : ¬ st zs 16 ≤ st zs (n + 1)) (hb : b n = none) : dec zs b (15 - n) n c = (0, 0, 2) := by
  rw [show 15 - n = (15 - (n + 1)) + 1 by omega, dec, if_neg h, hb]
theorem dec_step (zs : List Int) (b : Nat → Option Nat) (n c x : Nat) (hn : n < 15) (h : ¬ st zs 16 ≤ st zs (n + 1)) (hb : b n = some x) : dec zs b (15 - n) n c = decF zs b (n + 1) (2 * c + x) := by
  rw [show 15 - n = (15 - (n + 1)) + 1 by omega, dec, if_neg h, hb]
  rfl
theorem decF_hit (zs : List Int) (b : Nat → Option Nat) (n c : Nat) (h : c < fs zs n + cn zs n) : decF zs b n c = (sym zs n (c - fs zs n), n, 0) := by unfold decF; rw [if_pos h]
theorem decF_miss (zs : List Int) (b : Nat → Option Nat) (n c : Nat) (h : ¬ c < fs zs n + cn zs n) : decF zs b n c = dec zs b (15 - n) n c := by unfold decF; rw [if_neg h]

theorem hit_sym (zs : List Int) (n c k : Nat) (h : k < zs.length) (h0 : 0 < n) (hz : zs[k] = (n : Int)) (hc : cd zs k = c) : c < fs zs n + cn zs n ∧ sym zs n (c - fs zs n) = k := by
  have e := cd_pos zs k h (by omega)
  rw [hz, Int.toNat_natCast] at e
  have l := cn_lt zs k h (by omega)
  rw [hz, Int.toNat_natCast] at l
  refine ⟨by omega, ?_⟩
  rw [show c - fs zs n = cn (zs.take k) n by omega]
  exact sym_at zs k n h h0 hz
theorem hit_of (zs : List Int) (n c : Nat) (h0 : fs zs n ≤ c) (h : c < fs zs n + cn zs n) : ∃ k, ∃ hk : k < zs.length, zs[k] = (n : Int) ∧ 0 < n ∧ cd zs k = c := by
  obtain ⟨k, hk, h1, h2, h3⟩ := rank_sur zs n (c - fs zs n) (by omega)
  refine ⟨k, hk, h1, h2, ?_⟩
  rw [cd_pos zs k hk (by omega), h1, Int.toNat_natCast, h3]
  omega
theorem P2_mul (a b : Nat) (h : a ≤ b) (hb : b ≤ 15) : P2 (15 - a) = P2 (b - a) * P2 (15 - b) := by rw [← P2_add]; congr 1; omega
theorem lvl (zs : List Int) (x N : Nat) (a : Nat) (ha : a ≤ N) (h0 : sk zs a ≤ x) (h1 : x < sk zs N) : ∃ m, a ≤ m ∧ m < N ∧ sk zs m ≤ x ∧ x < sk zs (m + 1) := by
  induction N with
  | zero => have : a = 0 := by omega
            subst this; omega
  | succ N ih =>
    by_cases h : x < sk zs N
    · by_cases e : a ≤ N
      · obtain ⟨m, m1, m2, m3⟩ := ih e h
        exact ⟨m, m1, by omega, m3⟩
      · have : a = N + 1 := by omega
        subst this; omega
    · by_cases e : a ≤ N
      · exact ⟨N, e, by omega, by omega, h1⟩
      · have : a = N + 1 := by omega
        subst this; omega
theorem more_full (zs : List Int) (hf : sk zs 16 = 32768) (n c : Nat) (hn : n ≤ 15) (hc : c < P2 n) (hl : fs zs n + cn zs n ≤ c) :
    ∃ k, ∃ hk : k < zs.length, (n : Int) < zs[k] ∧ zs[k] ≤ 15 ∧ cd zs k / P2 (zs[k].toNat - n) = c := by
  have h1 : sk zs (n + 1) ≤ c * P2 (15 - n) := by rw [← fs_cn_sk zs n hn]; exact Nat.mul_le_mul_right _ hl
  have h2 : c * P2 (15 - n) < sk zs 16 := by
    rw [hf, show 32768 = P2 (n + (15 - n)) by rw [show n + (15 - n) = 15 by omega]; rfl, P2_add]
    exact Nat.mul_lt_mul_of_pos_right hc (P2_pos _)
  obtain ⟨m, m1, m2, m3, m4⟩ := lvl zs _ 16 (n + 1) (by omega) h1 h2
  have e : c * P2 (15 - n) = c * P2 (m - n) * P2 (15 - m) := by rw [P2_mul n m (by omega) (by omega), Nat.mul_assoc]
  rw [e, ← fs_sk zs m (by omega)] at m3
  rw [e, ← fs_cn_sk zs m (by omega)] at m4
  have k1 := Nat.le_of_mul_le_mul_right m3 (P2_pos _)
  have k2 := Nat.lt_of_mul_lt_mul_right m4
  obtain ⟨k, hk, z1, z2, z3⟩ := hit_of zs m _ k1 k2
  refine ⟨k, hk, by omega, by omega, ?_⟩
  rw [z1, Int.toNat_natCast, z3, Nat.mul_div_cancel _ (P2_pos _)]
theorem longer_st (zs : List Int) (n k : Nat) (hk : k < zs.length) (h : (n : Int) < zs[k]) (h15 : zs[k] ≤ 15) : st zs (n + 1) < st zs 16 := by
  have a1 := st_mono zs (a := n + 1) (b := zs[k].toNat) (by omega)
  have a2 := st_cn_le zs zs[k].toNat 16 (by omega)
  have a3 := cn_lt zs k hk (by omega)
  omega
theorem tab_cases {zs : List Int} (h : tabB zs = true) : sk zs 16 = 32768 ∨ st zs 16 = 0 ∨ (st zs 16 = 1 ∧ cn zs 1 = 1) := by
  unfold tabB at h
  simp only [Bool.or_eq_true, beq_iff_eq, Bool.and_eq_true] at h
  rcases h with (h | h) | h
  · exact Or.inl h
  · exact Or.inr (Or.inl h)
  · exact Or.inr (Or.inr h)
theorem more_iff (zs : List Int) (hR : inR zs) (hT : tabB zs = true) (n c : Nat) (hn : n ≤ 15) (hc : c < P2 n) (hl : fs zs n + cn zs n ≤ c) :
    (∃ k, ∃ hk : k < zs.length, (n : Int) < zs[k] ∧ cd zs k / P2 (zs[k].toNat - n) = c) ↔ st zs (n + 1) < st zs 16 := by
  constructor
  · rintro ⟨k, hk, h1, _⟩
    exact longer_st zs n k hk h1 (hR k hk).2
  · intro h
    rcases tab_cases hT with h1 | h1 | ⟨h1, h2⟩
    · obtain ⟨k, hk, a, _, b⟩ := more_full zs h1 n c hn hc hl
      exact ⟨k, hk, a, b⟩
    · omega
    · by_cases e : n = 0
      · subst e
        obtain ⟨k, hk, z1, z2, z3⟩ := rank_sur zs 1 0 (by omega)
        have f1 : fs zs 1 = 0 := rfl
        refine ⟨k, hk, by omega, ?_⟩
        rw [cd_pos zs k hk (by omega), z1]
        rw [P2_zero] at hc
        show (fs zs 1 + cn (zs.take k) 1) / _ = c
        rw [f1, z3]
        simp
        omega
      · have := st_cn_le zs 1 (n + 1) (by omega)
        omega
theorem cd_lt (zs : List Int) (hT : tabB zs = true) (i : Nat) (h : i < zs.length) (h0 : 0 < zs[i]) (h1 : zs[i] ≤ 15) : cd zs i < P2 zs[i].toNat := by
  have e := cd_pos zs i h h0
  have l := cn_lt zs i h h0
  rcases tab_cases hT with a | a | ⟨a, b⟩
  · have f := fs_cn_sk zs zs[i].toNat (by omega)
    have m := sk_mono zs (a := zs[i].toNat + 1) (b := 16) (by omega)
    rw [← f, a, show 32768 = P2 (zs[i].toNat + (15 - zs[i].toNat)) by rw [show zs[i].toNat + (15 - zs[i].toNat) = 15 by omega]; rfl, P2_add] at m
    have := Nat.le_of_mul_le_mul_right m (P2_pos _)
    omega
  · have := st_cn_le zs zs[i].toNat 16 (by omega)
    omega
  · have hz := (st_one zs).1 ⟨a, b⟩
    by_cases e1 : zs[i].toNat = 1
    · rw [e1] at e l
      rw [e1, e, show fs zs 1 = 0 from rfl]
      show _ < 2
      omega
    · have := hz.2 zs[i].toNat (by omega) e1
      omega
theorem cd_up (zs : List Int) (i : Nat) (h : i < zs.length) (h0 : 0 < zs[i]) (m : Nat) (hm : m < zs[i].toNat) : fs zs m + cn zs m ≤ cd zs i / P2 (zs[i].toNat - m) := by
  have e := cd_pos zs i h h0
  have u := fs_up zs m (zs[i].toNat - m - 1)
  rw [show zs[i].toNat - m - 1 + 1 = zs[i].toNat - m by omega, show m + (zs[i].toNat - m) = zs[i].toNat by omega] at u
  rw [Nat.le_div_iff_mul_le (P2_pos _)]
  omega
/-- a symbol's code is read back as it -/
theorem nx_back (zs : List Int) (hT : tabB zs = true) (b : Nat → Option Nat) (i : Nat) (h : i < zs.length) (h0 : 0 < zs[i]) (h1 : zs[i] ≤ 15)
    (hb : ∀ m, m < zs[i].toNat → b m = some (cd zs i / P2 (zs[i].toNat - 1 - m) % 2)) : nx zs b = (i, zs[i].toNat, 0) := by
  have H : ∀ m, m ≤ zs[i].toNat → nx zs b = decF zs b m (cd zs i / P2 (zs[i].toNat - m)) := by
    intro m
    induction m with
    | zero =>
      intro _
      have := cd_lt zs hT i h h0 h1
      rw [Nat.div_eq_of_lt (by simpa using this)]
      exact nx_eq zs b
    | succ m ih =>
      intro hm
      have u := cd_up zs i h h0 m (by omega)
      rw [ih (by omega), decF_miss zs b m _ (by omega), dec_step zs b m _ _ (by omega) (by have := longer_st zs m i h (by omega) h1; omega) (hb m (by omega))]
      congr 1
      rw [show zs[i].toNat - m = (zs[i].toNat - (m + 1)) + 1 by omega, show zs[i].toNat - 1 - m = zs[i].toNat - (m + 1) by omega, P2_succ, Nat.mul_comm 2 (P2 (zs[i].toNat - (m + 1))), ← Nat.div_div_eq_div_mul]
      generalize cd zs i / P2 (zs[i].toNat - (m + 1)) = y
      clear u ih
      omega
  rw [H zs[i].toNat (Nat.le_refl _), Nat.sub_self, P2_zero, Nat.div_one]
  obtain ⟨a1, a2⟩ := hit_sym zs zs[i].toNat (cd zs i) i h (by omega) (by omega) rfl
  rw [decF_hit zs b _ _ a1, a2]
/-- no code begins with another one -/
theorem no_prefix (zs : List Int) (i n : Nat) (hi : i < zs.length) (hn : n < zs.length) (h : i ≠ n) (hn0 : 0 < zs[n]) (hle : zs[n] ≤ zs[i]) : cd zs i / P2 (zs[i] - zs[n]).toNat ≠ cd zs n := by
  have e := cd_pos zs n hn hn0
  have l := cn_lt zs n hn hn0
  by_cases hz : zs[i] = zs[n]
  · have e2 := cd_pos zs i hi (by omega)
    rw [hz] at e2
    rw [hz, Int.sub_self, Int.toNat_zero, P2_zero, Nat.div_one]
    rcases Nat.lt_or_gt_of_ne h with h' | h'
    · have := cn_lt2 zs i n h' hn (by omega)
      rw [hz] at this
      omega
    · have := cn_lt2 zs n i h' hi (by omega)
      omega
  · have u := cd_up zs i hi (by omega) zs[n].toNat (by omega)
    rw [show zs[i].toNat - zs[n].toNat = (zs[i] - zs[n]).toNat by omega] at u
    omega
theorem full_at (zs : List Int) (b : Nat → Option Nat) (hf : sk zs 16 = 32768) (hb : ∀ m, m < 15 → ∃ x, b m = some x ∧ x < 2) :
    ∀ d n c, d = 15 - n → n ≤ 15 → c < P2 n → fs zs n ≤ c → ∃ s L, ∃ hs : s < zs.length, decF zs b n c = (s, L, 0) ∧ zs[s] = (L : Int) ∧ 0 < L := by
  intro d
  induction d with
  | zero =>
    intro n c hd hn hc hl
    by_cases hh : c < fs zs n + cn zs n
    · obtain ⟨hk, z1, z2, _⟩ := sym_of zs n (c - fs zs n) (by omega)
      exact ⟨_, n, hk, decF_hit zs b n c hh, z1, z2⟩
    · obtain ⟨k, hk, a1, a2, _⟩ := more_full zs hf n c hn hc (by omega)
      omega
  | succ d ih =>
    intro n c hd hn hc hl
    by_cases hh : c < fs zs n + cn zs n
    · obtain ⟨hk, z1, z2, _⟩ := sym_of zs n (c - fs zs n) (by omega)
      exact ⟨_, n, hk, decF_hit zs b n c hh, z1, z2⟩
    · obtain ⟨k, hk, a1, a2, _⟩ := more_full zs hf n c hn hc (by omega)
      obtain ⟨x, hx, hx2⟩ := hb n (by omega)
      rw [decF_miss zs b n c hh, dec_step zs b n c x (by omega) (by have := longer_st zs n k hk a1 a2; omega) hx]
      exact ih (n + 1) (2 * c + x) (by omega) (by omega) (by rw [P2_succ]; omega) (by rw [fs_succ]; omega)
theorem nx_full (zs : List Int) (b : Nat → Option Nat) (hf : sk zs 16 = 32768) (hb : ∀ m, m < 15 → ∃ x, b m = some x ∧ x < 2) :
    ∃ s L, ∃ hs : s < zs.length, nx zs b = (s, L, 0) ∧ zs[s] = (L : Int) ∧ 0 < L := by
  rw [nx_eq]
  exact full_at zs b hf hb 15 0 0 rfl (by omega) (by rw [P2_zero]; omega) (Nat.le_refl _)
theorem nx_few (zs : List Int) (hT : tabB zs = true) (b : Nat → Option Nat) (h : st zs 16 < 2) (hb : ∃ x, b 0 = some x) : (nx zs b).2.2 = 0 ∨ (nx zs b).2.2 = 4 := by
  obtain ⟨x, hx⟩ := hb
  by_cases h1 : st zs 16 ≤ st zs 1
  · right
    rw [nx_eq, decF_miss zs b 0 0 (by rw [cn_zero]; exact Nat.not_lt_zero _), dec_none zs b _ 0 0 h1]
  · rw [nx_eq, decF_miss zs b 0 0 (by rw [cn_zero]; exact Nat.not_lt_zero _), dec_step zs b 0 0 x (by omega) h1 hx]
    by_cases hh : 2 * 0 + x < fs zs 1 + cn zs 1
    · left; rw [decF_hit zs b _ _ hh]
    · right
      have s1 : st zs 1 = 0 := rfl
      have hc1 : cn zs 1 = 1 := by
        rcases tab_cases hT with a | a | ⟨a, b⟩
        · exfalso
          have f : sk zs 16 ≤ st zs 16 * P2 14 := by
            have H : ∀ N, N ≤ 16 → sk zs N ≤ st zs N * P2 14 := by
              intro N
              induction N with
              | zero => intro _; rw [show sk zs 0 = 0 from rfl]; exact Nat.zero_le _
              | succ N ih =>
                intro hN
                rw [sk_succ, st_succ, Nat.add_mul]
                by_cases e : N = 0
                · subst e; rw [cn_zero]; simp [sk, st]
                · have p : P2 (15 - N) ≤ P2 14 := P2_le (by omega)
                  have := Nat.mul_le_mul_left (cn zs N) p
                  have := ih (by omega)
                  omega
            exact H 16 (Nat.le_refl _)
          have e1 : st zs 16 = 1 := by omega
          rw [a, e1, Nat.one_mul] at f
          exact absurd f (by decide)
        · omega
        · exact b
      have : st zs 16 ≤ st zs 2 := by
        have := st_cn_le zs 1 2 (by omega)
        omega
      rw [decF_miss zs b _ _ hh, dec_none zs b _ 1 _ this]
theorem full_of_many {zs : List Int} (hT : tabB zs = true) (h : 2 ≤ st zs 16) : sk zs 16 = 32768 := by
  rcases tab_cases hT with a | a | ⟨a, b⟩
  · exact a
  · omega
  · omega
end Go.Proofs.YtddiccdfeckgaaaDoor.Hf
/- Plain facts: the symbols in the order of their codes. -/
namespace Go.Proofs.YtddiccdfeckgaaaDoor.Hf
set_option linter.unusedVariables false

/-- where a symbol stands among all in the order of their codes -/
def pos (zs : List Int) (i : Nat) : Nat := st zs (zs.getD i 0).toNat + cn (zs.take i) (zs.getD i 0).toNat
theorem pos_at (zs : List Int) (i m : Nat) (h : i < zs.length) (hm : zs[i] = (m : Int)) : pos zs i = st zs m + cn (zs.take i) m := by
  unfold pos; rw [getD_eq zs i h, hm, Int.toNat_natCast]
theorem pos_lt (zs : List Int) (i m : Nat) (h : i < zs.length) (hm : zs[i] = (m : Int)) (h0 : 0 < m) : pos zs i < st zs (m + 1) := by
  rw [pos_at zs i m h hm, st_succ]
  have := cn_lt zs i h (by omega)
  rw [hm, Int.toNat_natCast] at this
  omega
theorem pos_ne_lt (zs : List Int) (i j : Nat) (hij : i < j) (hj : j < zs.length) (h0 : 0 < zs[i]) (h1 : 0 < zs[j]) : pos zs i ≠ pos zs j := by
  have hi : i < zs.length := by omega
  obtain ⟨m, hm⟩ : ∃ m : Nat, zs[i] = (m : Int) := ⟨zs[i].toNat, by omega⟩
  obtain ⟨n, hn⟩ : ∃ n : Nat, zs[j] = (n : Int) := ⟨zs[j].toNat, by omega⟩
  rcases Nat.lt_trichotomy m n with h | h | h
  · have a := pos_lt zs i m hi hm (by omega)
    have b := st_mono zs (a := m + 1) (b := n) (by omega)
    rw [pos_at zs j n hj hn]
    omega
  · subst h
    rw [pos_at zs i m hi hm, pos_at zs j m hj hn]
    have := cn_lt2 zs i j hij hj h0
    rw [hm, Int.toNat_natCast] at this
    omega
  · have a := pos_lt zs j n hj hn (by omega)
    have b := st_mono zs (a := n + 1) (b := m) (by omega)
    rw [pos_at zs i m hi hm]
    omega
def sy (zs : List Int) : Nat → Nat → Nat
  | 0, _ => 0
  | k + 1, p => if 0 < zs.getD k 0 ∧ p = pos zs k then k else sy zs k p
theorem sy_zero (zs : List Int) (p : Nat) : sy zs 0 p = 0 := rfl
theorem sy_pos (zs : List Int) (k : Nat) (h : k < zs.length) (h0 : 0 < zs[k]) (p : Nat) : sy zs (k + 1) p = if p = pos zs k then k else sy zs k p := by
  rw [sy, getD_eq zs k h]
  by_cases e : p = pos zs k
  · rw [if_pos ⟨h0, e⟩, if_pos e]
  · rw [if_neg (by omega), if_neg e]
theorem sy_none (zs : List Int) (k : Nat) (h : k < zs.length) (h0 : ¬ 0 < zs[k]) (p : Nat) : sy zs (k + 1) p = sy zs k p := by
  rw [sy, getD_eq zs k h, if_neg (by omega)]
theorem sy_at (zs : List Int) (i : Nat) (h : i < zs.length) (h0 : 0 < zs[i]) : ∀ k, k ≤ zs.length → i < k → sy zs k (pos zs i) = i := by
  intro k
  induction k with
  | zero => intro _ h; omega
  | succ k ih =>
    intro hk hi
    by_cases e : i = k
    · subst e; rw [sy_pos zs i h h0, if_pos rfl]
    · by_cases hz : 0 < zs[k]
      · rw [sy_pos zs k (by omega) hz, if_neg (pos_ne_lt zs i k (by omega) (by omega) h0 hz), ih (by omega) (by omega)]
      · rw [sy_none zs k (by omega) hz, ih (by omega) (by omega)]
theorem sy_sym (zs : List Int) (n j : Nat) (h : j < cn zs n) : sy zs zs.length (st zs n + j) = sym zs n j := by
  obtain ⟨k, hk, h1, h2, h3⟩ := rank_sur zs n j h
  have e := sym_at zs k n hk h2 h1
  rw [h3] at e
  rw [e, ← h3, ← pos_at zs k n hk h1]
  exact sy_at zs k hk (by omega) zs.length (Nat.le_refl _) hk
end Go.Proofs.YtddiccdfeckgaaaDoor.Hf
/- Plain facts: a code laid down bit by bit, in two bytes. -/
namespace Go.Proofs.YtddiccdfeckgaaaDoor.Hf
set_option linter.unusedVariables false
open Go.Proofs.YtddiccdfeckgaaaDoor.B (P2 P2_zero P2_succ P2_pos P2_add P2_le P2_lt P2_sub)
def bb (q L m : Nat) : Nat := q / P2 (L - 1 - m) % 2
theorem bb_lt (q L m : Nat) : bb q L m < 2 := Nat.mod_lt _ (by omega)
def VV (q L : Nat) : Nat → Nat
  | 0 => 0
  | i + 1 => VV q L i + bb q L i * P2 i
theorem VV_succ (q L i : Nat) : VV q L (i + 1) = VV q L i + bb q L i * P2 i := rfl
theorem VV_one (q L i : Nat) (h : bb q L i = 1) : VV q L (i + 1) = VV q L i + P2 i := by rw [VV_succ, h, Nat.one_mul]
theorem VV_zero (q L i : Nat) (h : bb q L i = 0) : VV q L (i + 1) = VV q L i := by rw [VV_succ, h, Nat.zero_mul]; rfl
theorem VV_lt (q L i : Nat) : VV q L i < P2 i := by
  induction i with
  | zero => rw [P2_zero]; exact Nat.zero_lt_one
  | succ i ih =>
    rw [VV_succ, P2_succ]
    have h := bb_lt q L i
    have : bb q L i = 0 ∨ bb q L i = 1 := by omega
    rcases this with h | h <;> rw [h] <;> omega
theorem VV_bit (q L i m : Nat) (h : m < i) : VV q L i / P2 m % 2 = bb q L m := by
  induction i with
  | zero => omega
  | succ i ih =>
    rw [VV_succ]
    by_cases e : m = i
    · subst e
      have h1 := VV_lt q L m
      have h2 := bb_lt q L m
      rw [Nat.add_mul_div_right _ _ (P2_pos m), Nat.div_eq_of_lt h1]
      omega
    · have h1 := ih (by omega)
      have e1 : P2 i = P2 m * (2 * P2 (i - m - 1)) := by rw [← P2_succ, ← P2_add]; congr 1; omega
      have e2 : bb q L i * P2 i = bb q L i * (2 * P2 (i - m - 1)) * P2 m := by rw [e1, Nat.mul_assoc (bb q L i), Nat.mul_comm (P2 m)]
      have e3 : bb q L i * (2 * P2 (i - m - 1)) = 2 * (bb q L i * P2 (i - m - 1)) := Nat.mul_left_comm _ _ _
      rw [e2, Nat.add_mul_div_right _ _ (P2_pos m), e3]
      omega
/-- two bytes of a number -/
def lb (V : Nat) : List UInt8 := [UInt8.ofNat (V % 256), UInt8.ofNat (V / 256)]
theorem lb_len (V : Nat) : (lb V).length = 2 := rfl
theorem ofNat_toNat (x : Nat) (h : x < 256) : (UInt8.ofNat x).toNat = x := by rw [UInt8.toNat_ofNat']; exact Nat.mod_eq_of_lt h
theorem lb_at (V i : Nat) (hV : V < 65536) (h : i / 8 < (lb V).length) : (lb V)[i / 8].toNat = V / P2 (8 * (i / 8)) % 256 := by
  rw [lb_len] at h
  have : i / 8 = 0 ∨ i / 8 = 1 := by omega
  rcases this with e | e
  · simp only [e]
    show (UInt8.ofNat (V % 256)).toNat = _
    rw [ofNat_toNat _ (by omega)]
    simp [P2_zero]
  · simp only [e]
    show (UInt8.ofNat (V / 256)).toNat = _
    rw [ofNat_toNat _ (by omega), show P2 (8 * 1) = 256 from rfl]
    omega
theorem or_P2 (x k : Nat) (h : x < P2 k) : x ||| P2 k = x + P2 k := by
  have := Nat.two_pow_add_eq_or_of_lt (i := k) (b := x) h 1
  unfold P2
  rw [Nat.or_comm]
  rw [Nat.mul_one] at this
  rw [← this, Nat.add_comm]
theorem lb_or (V i : Nat) (hi : i < 15) (hV : V < P2 i) (h : i / 8 < (lb V).length) : (lb V).set (i / 8) (UInt8.ofNat ((lb V)[i / 8].toNat ||| P2 (i % 8))) = lb (V + P2 i) := by
  have hV2 : V < 65536 := Nat.lt_of_lt_of_le hV (P2_le (b := 16) (by omega))
  rw [lb_at V i hV2 h]
  by_cases h8 : i < 8
  · have e1 : i / 8 = 0 := by omega
    have e2 : i % 8 = i := by omega
    have b1 : P2 i ≤ 128 := P2_le (b := 7) (by omega)
    have e3 : V / P2 (8 * (i / 8)) % 256 = V := by rw [e1]; simp [P2_zero]; omega
    rw [e3, e2, or_P2 V i hV]
    unfold lb
    rw [show (V + P2 i) % 256 = V + P2 i by omega, show (V + P2 i) / 256 = V / 256 by omega]
    simp [e1]
  · have e1 : i / 8 = 1 := by omega
    have e2 : i % 8 = i - 8 := by omega
    have e4 : P2 i = 256 * P2 (i - 8) := by rw [show (256 : Nat) = P2 8 from rfl, ← P2_add]; congr 1; omega
    have b1 : P2 (i - 8) ≤ 64 := P2_le (b := 6) (by omega)
    have e3 : V / P2 (8 * (i / 8)) % 256 = V / 256 := by rw [e1, show P2 (8 * 1) = 256 from rfl]; omega
    have hq : V / 256 < P2 (i - 8) := by omega
    rw [e3, e2, or_P2 _ _ hq]
    unfold lb
    rw [show (V + P2 i) % 256 = V % 256 by omega, show (V + P2 i) / 256 = V / 256 + P2 (i - 8) by omega]
    simp [e1]
theorem lb_bit (V m : Nat) (hV : V < 65536) (hm : m < 16) (h : m / 8 < (lb V).length) : (lb V)[m / 8].toNat / P2 (m % 8) % 2 = V / P2 m % 2 := by
  rw [lb_at V m hV h]
  have : m / 8 = 0 ∨ m / 8 = 1 := by omega
  have hp : P2 (m % 8) ≤ 128 := P2_le (b := 7) (by omega)
  rcases this with e | e
  · have e2 : m % 8 = m := by omega
    rw [e, e2, show P2 (8 * 0) = 1 from rfl, Nat.div_one]
    have e3 : (256 : Nat) = P2 m * (2 * P2 (7 - m)) := by rw [← P2_succ, ← P2_add, show m + (7 - m + 1) = 8 by omega]; rfl
    rw [e3, Nat.mod_mul_right_div_self]
    rw [Nat.mod_mul_right_mod]
  · have e2 : m % 8 = m - 8 := by omega
    have e4 : P2 m = 256 * P2 (m - 8) := by rw [show (256 : Nat) = P2 8 from rfl, ← P2_add]; congr 1; omega
    rw [e, e2, show P2 (8 * 1) = 256 from rfl, e4, ← Nat.div_div_eq_div_mul, Nat.mod_eq_of_lt (by omega : V / 256 < 256)]
end Go.Proofs.YtddiccdfeckgaaaDoor.Hf
/- Small facts: results, numbers that fit, a block that is known whole. -/
namespace Go.Proofs.YtddiccdfeckgaaaDoor
open Go.RowKit
set_option linter.unusedVariables false

theorem ret_int {k : IntKind} {a b : Int} (h : a = b) : Ending.returned (.int k a) = .returned (.int k b) := by rw [h]
theorem ret_bool {a b : Bool} (h : a = b) : Ending.returned (.bool a) = .returned (.bool b) := by rw [h]
theorem i64_id (x : Int) (h0 : -9223372036854775808 ≤ x) (h1 : x ≤ 9223372036854775807) : wrap64 x = x := by unfold wrap64; omega
theorem i64_wrap (x : Int) (h0 : -9223372036854775808 ≤ x) (h1 : x ≤ 9223372036854775807) : IntKind.i64.wrap x = x := by rw [IntKind.wrap_i64]; omega

/-- a block whose cells are known, all of them -/
def Blk (w : World) (b : Nat) (cs : Array Value) (t : TypeId) : Prop := w.heap[b]? = some (.cells cs t (0, 0))
section
variable {w w' : World} {b : Nat} {cs : Array Value} {t : TypeId}
theorem Blk.lt (h : Blk w b cs t) : b < w.heap.size := (Array.getElem?_eq_some_iff.1 h).1
theorem Blk.cell (h : Blk w b cs t) (i : Nat) : w.cell? ⟨b, i, none⟩ = cs[i]? := cell_of_row w b i cs t (0, 0) h
theorem Blk.frozen (h : Blk w b cs t) (i : Nat) : w.frozen? ⟨b, i, none⟩ = false := frozen_of_row w b i cs t h
theorem Blk.keep (h : Blk w b cs t) (hb : Below w.heap.size w w') : Blk w' b cs t := by unfold Blk; rw [hb.block b h.lt]; exact h
theorem blk_new (w : World) (cs : Array Value) (t : TypeId) : Blk (w.alloc (.cells cs t)) w.heap.size cs t := heap_alloc_new w _
theorem Blk.alloc (h : Blk w b cs t) (o : Obj) : Blk (w.alloc o) b cs t := by unfold Blk; rw [Below.heap_alloc w o b h.lt]; exact h
theorem Blk.drew (h : Blk w b cs t) : Blk w.drew b cs t := h
theorem Blk.drewN (h : Blk w b cs t) (n : Nat) : Blk (w.drewN n) b cs t := h
theorem Blk.set (h : Blk w b cs t) (i : Nat) (v : Value) : Blk (w.setCell ⟨b, i, none⟩ v) b (cs.setIfInBounds i v) t := heap_setCell_same w b i cs t v h
theorem Blk.other (h : Blk w b cs t) {a : Addr} (v : Value) (ha : b ≠ a.block) : Blk (w.setCell a v) b cs t := by unfold Blk; rw [heap_setCell_other w a b v ha]; exact h
theorem Blk.row (h : Blk w b cs t) (cs' : Array Value) : Blk (w.setRow b cs') b cs' t := setRow_heap w b cs cs' t (0, 0) h
theorem Blk.rowOther (h : Blk w b cs t) (g : Nat) (cs' : Array Value) (hg : b ≠ g) : Blk (w.setRow g cs') b cs t := by unfold Blk; rw [setRow_other w g b cs' hg]; exact h
end
theorem bq_row {a b : World} (h : Below a.heap.size a b) (g : Nat) (hg : a.heap.size ≤ g) (cs : Array Value) : Below a.heap.size a (b.setRow g cs) :=
  h.trans ⟨rfl, rfl, rfl, by simp, fun k hk => setRow_other b g k cs (by omega)⟩
end Go.Proofs.YtddiccdfeckgaaaDoor
/- Laws for whole arrays and structs in blocks of the call's own: the world behind each is a letter, of which one block is known whole. -/
namespace Go.Proofs.YtddiccdfeckgaaaDoor
open Go.RowKit
set_option linter.unusedVariables false

/-- one block has turned, nothing else -/
structure Turned (g : Nat) (w w' : World) : Prop where
  os : w'.os = w.os
  tape : w'.tape = w.tape
  output : w'.output = w.output
  size : w'.heap.size = w.heap.size
  block : ∀ k, k ≠ g → w'.heap[k]? = w.heap[k]?
section
variable {w w' : World} {b g : Nat} {cs : Array Value} {t : TypeId}
theorem Turned.blk (h : Turned g w w') (hB : Blk w b cs t) (hn : b ≠ g) : Blk w' b cs t := by unfold Blk; rw [h.block b hn]; exact hB
theorem Turned.below {a : World} (h : Turned g w w') (hb : Below a.heap.size a w) (hg : a.heap.size ≤ g) : Below a.heap.size a w' :=
  hb.trans ⟨h.os, h.tape, h.output, Nat.le_of_eq h.size.symm, fun k hk => h.block k (by omega)⟩
theorem Turned.cell (h : Turned g w w') {p : Addr} (hp : p.block ≠ g) : w'.cell? p = w.cell? p := World.cell?_of_block (w := w) (h.block p.block hp)
theorem turned_row (w : World) (g : Nat) (cs : Array Value) : Turned g w (w.setRow g cs) := ⟨rfl, rfl, rfl, by simp, fun k hk => setRow_other w g k cs hk⟩
theorem turned_set (w : World) (a : Addr) (v : Value) : Turned a.block w (w.setCell a v) := ⟨rfl, rfl, rfl, by simp [World.setCell], fun k hk => heap_setCell_other w a k v hk⟩
end
section
variable {P : Program} {ops : Array Oper} {rest : List Oper} {o : Oper} {a : Act} {w : World} {Q : Exit → Act → World → Prop}
theorem wl_alloc (ty : TypeId) (z : Array Value) (hz : ∀ w, (zeroValue ty).run P w = .ok (.agg z) w) (ho : o.op = .alloc ty) (hgd : o.guard = none)
    (h : ∀ W b, Blk W b z ty → w.heap.size ≤ b → Below w.heap.size w W → wpList P ops Q rest (a.put o.dst (.pointer (some ⟨b, 0, none⟩))) W) : wpList P ops Q (o :: rest) a w := by
  refine wpList_plain hgd fun K hK => ?_
  have := h (w.alloc (.cells z ty)) w.heap.size (blk_new w z ty) (Nat.le_refl _) (bq_alloc (bq_refl w) _)
  unfold Oper.wp execOp
  simp only [ho, Instr.alloc, Sem.run_bind, hz, Result.andThen_ok, newVar, newRow, Value.cells]
  exact hK _ _ this
theorem wl_box (ty : TypeId) (x : Operand) (cs : Array Value) (ho : o.op = .box ty x) (hgd : o.guard = none) (hx : a.eval x = .agg cs)
    (h : ∀ W b, Blk W b cs ty → w.heap.size ≤ b → Below w.heap.size w W → wpList P ops Q rest (a.put o.dst (.pointer (some ⟨b, 0, none⟩))) W) : wpList P ops Q (o :: rest) a w := by
  refine wpList_plain hgd fun K hK => ?_
  have := h (w.alloc (.cells cs ty)) w.heap.size (blk_new w cs ty) (Nat.le_refl _) (bq_alloc (bq_refl w) _)
  unfold Oper.wp execOp
  simp only [ho, hx, Instr.box, Sem.run_bind, newVar, newRow, Value.cells]
  exact hK _ _ this
theorem wl_load (ty : TypeId) (n : Nat) (d : TypeDesc) (hu : P.underlying ty = some d) (hd : (match d with | .struct _ | .array _ _ => true | _ => false) = true) (hi : (P.info? ty).map (·.size) = some n)
    (x : Operand) (ho : o.op = .load ty x) (hgd : o.guard = none) (b : Nat) (hx : a.eval x = .pointer (some ⟨b, 0, none⟩)) (cs : Array Value) (t : TypeId) (hB : Blk w b cs t) (hn : cs.size = n)
    (h : wpList P ops Q rest (a.put o.dst (.agg cs)) w) : wpList P ops Q (o :: rest) a w :=
  wpList_load_row hgd ty x ho b hx t cs (0, 0) d hB hu hd (by rw [hi, hn]) h
theorem wlg_load (ty : TypeId) (n : Nat) (d : TypeDesc) (hu : P.underlying ty = some d) (hd : (match d with | .struct _ | .array _ _ => true | _ => false) = true) (hi : (P.info? ty).map (·.size) = some n)
    (x : Operand) (ho : o.op = .load ty x) (hw : Region.wanted o (yielded ops a.tmps) = true) (b : Nat) (hx : a.eval x = .pointer (some ⟨b, 0, none⟩)) (cs : Array Value) (t : TypeId) (hB : Blk w b cs t) (hn : cs.size = n)
    (h : wpList P ops Q rest (a.put o.dst (.agg cs)) w) : wpList P ops Q (o :: rest) a w := by
  refine wpList_step fun K hK => ?_
  rw [if_pos hw]
  exact wp_load_row ty x ho b hx t cs (0, 0) d hB hu hd (by rw [hi, hn]) (hK _ _ h)
theorem wlg_build (ty : TypeId) (ps : List (Nat × Value)) (cs : Array Value) (hb : P.built ty ps = some cs) (parts : Array (Nat × Operand)) (ho : o.op = .build ty parts) (hw : Region.wanted o (yielded ops a.tmps) = true)
    (hps : (parts.toList.map fun (i, x) => (i, a.eval x)) = ps)
    (h : wpList P ops Q rest (a.put o.dst (.agg cs)) w) : wpList P ops Q (o :: rest) a w := by
  refine wpList_step fun K hK => ?_
  rw [if_pos hw]
  rw [← hps, ← Array.toList_map] at hb
  exact wp_build ty parts ho (by rw [hb]; rfl) (by rw [hb]; exact hK _ _ h)
theorem wl_store (ty : TypeId) (n : Nat) (hi : (P.info? ty).map (·.size) = some n)
    (x y : Operand) (ho : o.op = .store ty x y) (hgd : o.guard = none) (b : Nat) (hx : a.eval x = .pointer (some ⟨b, 0, none⟩)) (cs : Array Value) (hy : a.eval y = .agg cs) (old : Array Value) (t : TypeId) (hB : Blk w b old t) (hn : old.size = n) (hn2 : cs.size = n)
    (h1 : cs.all (·.oneCell') = true)
    (h : ∀ W, Blk W b cs t → Turned b w W → wpList P ops Q rest (a.put o.dst undef) W) : wpList P ops Q (o :: rest) a w :=
  wpList_store_row hgd ty x y ho b cs hx hy t old hB (by rw [hi, hn2]) (by rw [hn, hn2]) h1 (h _ (Blk.row hB cs) (turned_row w b cs))
theorem wl_make (t e : TypeId) (i : TypeInfo) (z : Value) (ht : P.underlying t = some (.slice e)) (hi : P.info? e = some i) (hz : i.zero = some z) (h1 : i.size = 1) (h8 : i.bytes ≤ 8) (hc : z.cells = #[z])
    (l c : Operand) (ho : o.op = .makeSlice t l c) (hgd : o.guard = none) (n : Nat) (hl : a.eval l = .int .i64 (n : Int)) (hcc : a.eval c = .int .i64 (n : Int)) (hn : n ≤ 1000000)
    (h : ∀ W b, Blk W b (Array.replicate n z) e → w.heap.size ≤ b → Below w.heap.size w W → wpList P ops Q rest (a.put o.dst (.slice (some ⟨b, 0, none⟩) n n)) W) : wpList P ops Q (o :: rest) a w := by
  refine wpList_plain hgd fun K hK => ?_
  have e1 : madeCells z.cells (n * i.size) = Array.replicate n z := by
    rw [h1, hc]
    unfold madeCells
    apply Array.ext
    · simp
    · intro j hj hj2
      simp [Nat.mod_one]
  have hr := run_make (P := P) w t e i z ht hi hz .i64 .i64 n n (by omega) (by omega) (by
    have h3 : (i.bytes : Int) * (n : Int) ≤ 8 * (n : Int) := Int.mul_le_mul_of_nonneg_right (by omega) (by omega)
    omega) (by omega)
  simp only [Int.toNat_natCast, e1] at hr
  have := h (w.alloc (.cells (Array.replicate n z) e)) w.heap.size (blk_new w _ e) (Nat.le_refl _) (bq_alloc (bq_refl w) _)
  unfold Oper.wp execOp
  simp only [ho, hl, hcc, Sem.run_bind, hr, Result.andThen_ok]
  exact hK _ _ this
end
/-- a result that lies in a block, and one in a slot -/
theorem post_cell_tmp {P : Program} {fn : Func} {p u : Tmp} {ty : TypeId} {a : Act} {W : World} {R : Ending → World → Prop} {n : Nat} {d : TypeDesc}
    (hu : P.underlying ty = some d) (hd : (match d with | .struct _ | .array _ _ => true | _ => false) = true) (hi : (P.info? ty).map (·.size) = some n)
    (hres : fn.results = #[.cell p ty, .tmp u]) {b : Nat} {cs : Array Value} {t : TypeId} (hB : Blk W b cs t) (hn : cs.size = n)
    (hp : a.tmps.getD p undef = .pointer (some ⟨b, 0, none⟩)) {v : Value} (hv : a.tmps.getD u undef = v) (hdf : a.defers = []) (hR : R (.returned (.tuple #[.agg cs, v])) W) : bodyPost P fn R .ret a W := by
  refine bodyPost_ret (v := .tuple #[.agg cs, v]) ?_ hdf hR
  rw [results_cell_tmp hres, hp, hv]
  simp [asAddr, run_loadVar_row W b t ty cs (0, 0) d hB hu hd (by rw [hi, hn])]
theorem post_cell {P : Program} {fn : Func} {p : Tmp} {ty : TypeId} {a : Act} {W : World} {R : Ending → World → Prop} {n : Nat} {d : TypeDesc}
    (hu : P.underlying ty = some d) (hd : (match d with | .struct _ | .array _ _ => true | _ => false) = true) (hi : (P.info? ty).map (·.size) = some n)
    (hres : fn.results = #[.cell p ty]) {b : Nat} {cs : Array Value} {t : TypeId} (hB : Blk W b cs t) (hn : cs.size = n)
    (hp : a.tmps.getD p undef = .pointer (some ⟨b, 0, none⟩)) (hdf : a.defers = []) (hR : R (.returned (.agg cs)) W) : bodyPost P fn R .ret a W :=
  bodyPost_ret (v := .agg cs) (results_cell_row hres a.tmps W b t cs (0, 0) d hp hB hu hd (by rw [hi, hn])) hdf hR
end Go.Proofs.YtddiccdfeckgaaaDoor
/- Bytes in a block that is known whole, as a string. -/
namespace Go.Proofs.YtddiccdfeckgaaaDoor
open Go.RowKit
set_option linter.unusedVariables false
def bs (l : List UInt8) : ByteArray := ⟨l.toArray⟩
theorem bs_size (l : List UInt8) : (bs l).size = l.length := rfl
theorem bs_append (a b : List UInt8) : bs a ++ bs b = bs (a ++ b) := by
  apply ByteArray.ext
  rw [ByteArray.data_append]
  simp [bs]
def byA (l : List UInt8) : Array Value := (l.map fun c => Value.int .u8 (c.toNat : Int)).toArray
theorem byA_size (l : List UInt8) : (byA l).size = l.length := by simp [byA]
theorem byA_at (l : List UInt8) (i : Nat) (h : i < l.length) : (byA l)[i]? = some (.int .u8 (l[i].toNat : Int)) := by simp [byA, h]
theorem byA_set (l : List UInt8) (i : Nat) (c : UInt8) : (byA l).setIfInBounds i (.int .u8 (c.toNat : Int)) = byA (l.set i c) := by
  apply Array.ext
  · simp [byA]
  · intro j h1 h2
    simp only [Array.size_setIfInBounds] at h1
    rw [Array.getElem_setIfInBounds h1]
    simp only [byA, List.getElem_toArray, List.getElem_map, List.getElem_set]
    by_cases e : i = j
    · rw [if_pos e, if_pos e]
    · rw [if_neg e, if_neg e]
theorem blk_str {w : World} {g : Nat} {l : List UInt8} {t : TypeId} (h : Blk w g (byA l) t) (c : Nat) : (convert 36 9 (.slice (some ⟨g, 0, none⟩) l.length c)).run Tryd.prog w = .ok (.string (bs l)) w :=
  run_convert_bytes_back (P := Tryd.prog) w 36 9 5 ⟨g, 0, none⟩ c l Tryd.underlying36 Tryd.underlying5 Tryd.underlying9 (fun j hj => by
    rw [← byA_at l j hj, ← h.cell j]; congr 1; unfold Addr.add; split <;> simp_all)
theorem info5 : (Tryd.prog.info? 5).map (fun i => (i.zero, i.size, i.bytes)) = some (some (.int .u8 0), 1, 1) := by kernel_rfl
theorem byA_zero (n : Nat) : Array.replicate n (Value.int .u8 0) = byA (List.replicate n 0) := by
  apply Array.ext
  · simp [byA]
  · intro i h1 h2
    simp [byA]
section
variable {ops : Array Oper} {rest : List Oper} {o : Oper} {a : Act} {w : World} {Q : Exit → Act → World → Prop}
theorem wl_bytes (l c : Operand) (ho : o.op = .makeSlice 36 l c) (hgd : o.guard = none) (n : Nat) (hl : a.eval l = .int .i64 (n : Int)) (hcc : a.eval c = .int .i64 (n : Int)) (hn : n ≤ 1000000)
    (h : ∀ W b, Blk W b (byA (List.replicate n 0)) 5 → w.heap.size ≤ b → Below w.heap.size w W → wpList Tryd.prog ops Q rest (a.put o.dst (.slice (some ⟨b, 0, none⟩) n n)) W) : wpList Tryd.prog ops Q (o :: rest) a w := by
  have hi := info5
  cases hq : Tryd.prog.info? 5 with
  | none => rw [hq] at hi; cases hi
  | some i =>
    rw [hq] at hi
    simp only [Option.map_some, Option.some.injEq, Prod.mk.injEq] at hi
    refine wl_make 36 5 i (.int .u8 0) Tryd.underlying36 hq hi.1 hi.2.1 (by omega) rfl l c ho hgd n hl hcc hn ?_
    rw [byA_zero]
    exact h
end
theorem byte_of (x : Int) (h0 : 0 ≤ x) (h1 : x < 256) : ((UInt8.ofNat x.toNat).toNat : Int) = x := by
  rw [UInt8.toNat_ofNat']; omega
end Go.Proofs.YtddiccdfeckgaaaDoor
/- Layer 4: the types of a table; rows of 16 numbers. -/
namespace Go.Proofs.YtddiccdfeckgaaaDoor
open Go.RowKit
set_option linter.unusedVariables false

theorem size25 : (Tryd.prog.info? 40).map (·.size) = some 16 := by kernel_rfl
theorem size27 : (Tryd.prog.info? 43).map (·.size) = some 17 := by kernel_rfl
/-- sixteen numbers -/
def row16 (f : Nat → Nat) : Array Value := ((List.range 16).map fun n => Value.int .i64 (f n : Int)).toArray
theorem row16_size (f : Nat → Nat) : (row16 f).size = 16 := by simp [row16]
theorem row16_at (f : Nat → Nat) (k : Nat) (h : k < 16) : (row16 f)[k]? = some (.int .i64 (f k : Int)) := by simp [row16, h]
theorem row16_one (f : Nat → Nat) : (row16 f).all (·.oneCell') = true := by
  rw [Array.all_eq_true_iff_forall_mem]
  intro v hv
  simp only [row16, List.mem_toArray, List.mem_map] at hv
  obtain ⟨n, _, rfl⟩ := hv
  rfl
theorem row16_set (f : Nat → Nat) (k v : Nat) : (row16 f).setIfInBounds k (.int .i64 (v : Int)) = row16 (fun n => if n = k then v else f n) := by
  apply Array.ext
  · simp [row16]
  · intro i h1 h2
    simp only [Array.size_setIfInBounds] at h1
    rw [Array.getElem_setIfInBounds h1]
    simp only [row16, List.getElem_toArray, List.getElem_map, List.getElem_range]
    by_cases e : k = i
    · subst e; simp
    · rw [if_neg e, if_neg (by omega)]
theorem row16_congr (f g : Nat → Nat) (h : ∀ n, n < 16 → f n = g n) : row16 f = row16 g := by
  unfold row16
  apply Array.ext
  · simp
  · intro i h1 h2
    simp only [List.size_toArray, List.length_map, List.length_range] at h1
    simp [h i h1]
theorem zero25 (w : World) : (zeroValue 40).run Tryd.prog w = .ok (.agg (row16 fun _ => 0)) w := Tryd.zeroValue40 w
theorem row16_index (f : Nat → Nat) (k : Nat) (w : World) (h : k < 16) : (Instr.index 40 (.agg (row16 f)) (.int .i64 (k : Int))).run Tryd.prog w = .ok (.int .i64 (f k : Int)) w := by
  have hb : 0 ≤ (k : Int) ∧ (k : Int) < 16 := by omega
  have hs : (sizeOf 3).run Tryd.prog w = .ok 1 w := Tryd.sizeOf3 w
  have hu : (underlying 40).run Tryd.prog w = .ok (.array 16 3) w := run_underlying Tryd.underlying40 w
  simp [Instr.index, asIntOf, hu, hs, hb, part, row16_at f k h]
  omega
end Go.Proofs.YtddiccdfeckgaaaDoor
/- Layer 4: where the codes of each length begin; their first ones. -/
namespace Go.Proofs.YtddiccdfeckgaaaDoor
open Go.RowKit
set_option linter.unusedVariables false
set_option maxRecDepth 100000

/-- so far: f below k, 0 from k on -/
def upto (f : Nat → Nat) (k n : Nat) : Nat := if n < k then f n else 0
theorem row_step (f : Nat → Nat) (k : Nat) : (row16 (upto f k)).setIfInBounds k (.int .i64 (f k : Int)) = row16 (upto f (k + 1)) := by
  rw [row16_set]
  apply row16_congr
  intro n hn
  unfold upto
  by_cases h : n = k
  · subst h; rw [if_pos rfl, if_pos (by omega)]
  · rw [if_neg h]
    by_cases h2 : n < k
    · rw [if_pos h2, if_pos (by omega)]
    · rw [if_neg h2, if_neg (by omega)]
theorem row_start (f : Nat → Nat) : row16 (upto f 0) = row16 (fun _ => 0) := row16_congr _ _ (fun n _ => by unfold upto; rw [if_neg (by omega)])
theorem row_end (f : Nat → Nat) : row16 (upto f 16) = row16 f := row16_congr _ _ (fun n h => by unfold upto; rw [if_pos h])
def StRel (zs : List Int) (w : World) (b2 b4 : Nat) (tot i : Value) (wr : World) : Prop :=
  ∃ k x : Nat, k ≤ 16 ∧ i = .int .i64 k ∧ tot = .int .i64 (x : Int) ∧ x = Hf.st zs k ∧ Blk wr b2 (row16 fun _ => 0) 40 ∧ Blk wr b4 (row16 (upto (Hf.st zs) k)) 40 ∧ Below w.heap.size w wr
set_option maxHeartbeats 1000000 in
theorem starts_any (zs : List Int) (w : World) (hl : zs.length ≤ 320) :
    Calls Tryd.prog 81 #[.agg (row16 (Hf.cn zs))] w fun e w' => e = .returned (.tuple #[.agg (row16 (Hf.st zs)), .int .i64 (Hf.st zs 16 : Int)]) ∧ Below w.heap.size w w' := by
  have hz := row16_size (Hf.cn zs)
  have HZ := Lib.hid hz
  clear hz
  go_enter Tryd.func81, Tryd.ntmps81
  go_wp2_with (first
    | (refine wl_box 40 _ _ rfl rfl rfl ?_; intro _ _ _ _ _)
    | (refine wl_alloc 40 _ zero25 rfl rfl ?_; intro _ _ _ _ _)
    | (refine wl_load 40 16 _ Tryd.underlying40 rfl size25 _ rfl rfl _ rfl _ _ (by first | assumption | exact Blk.keep (by assumption) (by assumption) | exact Blk.keep (Blk.keep (by assumption) (by assumption)) (by assumption)) HZ.out ?_))
  rename_i W1 b1 B1 l1 k1 W2 b2 B2 l2 k2 W3 b4 B4 l3 k3 K hK
  have n1 : b2 < W2.heap.size := B2.lt
  have C2 := Blk.keep B2 k3
  have HE := Lib.hid (bq_trans (bq_trans k1 k2) k3)
  have s1 := k1.size
  have s2 := k2.size
  have g2 : w.heap.size ≤ b2 := by omega
  have g4 : w.heap.size ≤ b4 := by omega
  have n2 : b2 ≠ b4 := by omega
  clear B1 l1 k1 B2 l2 k2 l3 k3 s1 s2 n1
  go_loopw [5, 9] (fun t i wr => StRel zs w b2 b4 t i wr) (fun _ i _ => 16 - (intOf i).toNat)
  case atStart => exact ⟨0, 0, by omega, rfl, rfl, rfl, C2, by rw [row_start]; exact B4, HE.out⟩
  case round =>
    obtain ⟨k, x, hk, rfl, rfl, hx, hb2, hb4, hbel⟩ := hrel
    have hx2 := Hf.st_len zs k
    rw [← hx] at hx2
    have HX := Lib.hid hx
    have HB := Lib.hid hbel
    clear hx hbel C2 B4 HE
    by_cases hlt : k < 16
    · have hi := row16_at (Hf.cn zs) k hlt
      have hc := (hb4.cell k).trans (row16_at (upto (Hf.st zs) k) k hlt)
      have hf := hb4.frozen k
      have hcl := Hf.cn_len zs k
      have hs := row_step (Hf.st zs) k
      rw [← HX.out] at hs
      have HS := Lib.hid hs
      have HN : Hid (x + Hf.cn zs k = Hf.st zs (k + 1)) := by rw [HX.out]; exact Lib.hid rfl
      generalize upto (Hf.st zs) k k = z at *
      have hix := row16_index (Hf.cn zs) k wr hlt
      clear hs hi
      generalize Hf.cn zs k = y at *
      go_wp2
      go_roundw
      case rel => exact ⟨k + 1, x + y, by omega, by go_num, by go_num, HN.out, hb2.other _ (by show b2 ≠ b4; exact n2), by rw [← HS.out]; exact hb4.set k _, bq_set HB.out _ g4 _⟩
      case measure => simp [intOf]; omega
    · obtain rfl : k = 16 := by omega
      rw [row_end] at hb4
      go_wp2_with (first
        | (refine wl_load 40 16 _ Tryd.underlying40 rfl size25 _ rfl rfl _ rfl _ _ hb4 (row16_size _) ?_)
        | (refine wl_store 40 16 size25 _ _ rfl rfl _ rfl _ rfl _ _ hb2 (row16_size _) (row16_size _) (row16_one _) ?_; intro W5 hB5 hT5))
      refine post_cell_tmp (v := .int .i64 (x : Int)) Tryd.underlying40 rfl size25 Tryd.results81 hB5 (row16_size _) rfl rfl rfl ⟨?_, hT5.below HB.out g2⟩
      rw [HX.out]

def FsRel (zs : List Int) (w : World) (b2 b3 : Nat) (c i : Value) (wr : World) : Prop :=
  ∃ k x : Nat, k ≤ 16 ∧ i = .int .i64 k ∧ c = .int .i64 (x : Int) ∧ (k = 0 → x = 0) ∧ (0 < k → x = Hf.fs zs (k - 1) + Hf.cn zs (k - 1)) ∧ Blk wr b2 (row16 fun _ => 0) 40 ∧ Blk wr b3 (row16 (upto (Hf.fs zs) k)) 40 ∧ Below w.heap.size w wr
theorem fs_bd (zs : List Int) (hl : zs.length ≤ 320) (k : Nat) (h : k ≤ 15) : Hf.fs zs k ≤ 10485760 := by
  have h1 := Hf.fs_len zs k h
  have h2 : zs.length * 32768 ≤ 320 * 32768 := Nat.mul_le_mul_right _ hl
  exact Nat.le_trans h1 h2
theorem fs_next (zs : List Int) (k x : Nat) (h0 : k = 0 → x = 0) (h1 : 0 < k → x = Hf.fs zs (k - 1) + Hf.cn zs (k - 1)) : 2 * x = Hf.fs zs k := by
  cases k with
  | zero => rw [h0 rfl]; rfl
  | succ k => rw [h1 (by omega), Hf.fs_succ]; rfl
end Go.Proofs.YtddiccdfeckgaaaDoor
/- Layer 4: lengths that may be a table; how many of each there are. -/
namespace Go.Proofs.YtddiccdfeckgaaaDoor
open Go.RowKit
set_option linter.unusedVariables false
set_option maxRecDepth 100000
def MbRel (zs : List Int) (s i : Value) : Prop := ∃ k x : Nat, k ≤ 16 ∧ i = .int .i64 k ∧ s = .int .i64 (x : Int) ∧ x = Hf.sk zs k
theorem sk_bd (zs : List Int) (hl : zs.length ≤ 320) (k : Nat) : Hf.sk zs k ≤ 10485760 := by
  have h1 := Hf.sk_len zs k
  have h2 : zs.length * 32768 ≤ 320 * 32768 := Nat.mul_le_mul_right _ hl
  exact Nat.le_trans h1 h2
/-- just one code, of length 1 -/
def one1 (n : Nat) : Nat := if n = 1 then 1 else 0
theorem cells3 : Tryd.prog.cellsOf 3 = 1 := by kernel_rfl
theorem items16 (f g : Nat → Nat) (d : Nat) (w : World) : ∀ is : List Nat, (∀ i ∈ is, i < 16) → (Op.eqItems (d + 1) 3 1 (row16 f) (row16 g) is).run Tryd.prog w = .ok (is.all fun n => f n == g n) w
  | [], _ => by simp [Op.eqItems]
  | i :: is, h => by
    have hi : i < 16 := h i (by simp)
    have p1 : (part 3 (row16 f) (i * 1)).run Tryd.prog w = .ok (.int .i64 (f i : Int)) w := by simp [part, row16_at f i hi]
    have p2 : (part 3 (row16 g) (i * 1)).run Tryd.prog w = .ok (.int .i64 (g i : Int)) w := by simp [part, row16_at g i hi]
    have p3 : (Op.equalIn (d + 1) 3 (.int .i64 (f i : Int)) (.int .i64 (g i : Int))).run Tryd.prog w = .ok ((f i : Int) == (g i : Int)) w := run_equalIn_int w d 3 .i64 .i64 _ _ Tryd.underlying3
    have ih := items16 f g d w is (fun j hj => h j (by simp [hj]))
    simp only [Op.eqItems, Sem.run_bind, p1, p2, p3, Result.andThen_ok]
    by_cases e : f i = g i
    · rw [e]; simp [ih, e]
    · have e1 : ((f i : Int) == (g i : Int)) = false := by rw [beq_eq_false_iff_ne]; omega
      simp [e1, e]
theorem eq16 (f g : Nat → Nat) (w : World) : (Op.equalIn 10000 40 (.agg (row16 f)) (.agg (row16 g))).run Tryd.prog w = .ok ((List.range 16).all fun n => f n == g n) w := by
  have hi : ∃ i, Tryd.prog.info? 3 = some i := Option.isSome_iff_exists.1 (by kernel_rfl)
  obtain ⟨i, hi⟩ := hi
  rw [run_equalIn_array w 9999 (row16 f) (row16 g) Tryd.underlying40 hi, cells3]
  exact items16 f g 9998 w (List.range 16) (fun i h => by simpa using h)
theorem tab_one (zs : List Int) : ((List.range 16).all fun n => Hf.cn zs n == one1 n) = (Hf.st zs 16 == 1 && Hf.cn zs 1 == 1) := by
  rw [Bool.eq_iff_iff]
  simp only [List.all_eq_true, List.mem_range, beq_iff_eq, Bool.and_eq_true]
  rw [Hf.st_one]
  constructor
  · intro h
    exact ⟨h 1 (by omega), fun n h1 h2 => by rw [h n h1]; unfold one1; rw [if_neg h2]⟩
  · rintro ⟨h1, h2⟩ n hn
    unfold one1
    by_cases e : n = 1
    · subst e; rw [if_pos rfl]; exact h1
    · rw [if_neg e]; exact h2 n hn e
theorem shl_sum (zs : List Int) (hl : zs.length ≤ 320) (k x : Nat) (hk : k < 16) (hx : x = Hf.sk zs k) : wrap64 ((x : Int) + wrap64 ((Hf.cn zs k : Int) * 2 ^ (15 - k))) = ((Hf.sk zs (k + 1) : Nat) : Int) := by
  have h1 := sk_bd zs hl (k + 1)
  have e : (Hf.cn zs k : Int) * 2 ^ (15 - k) = ((Hf.cn zs k * B.P2 (15 - k) : Nat) : Int) := by unfold B.P2; push_cast; rfl
  have e2 : (x : Int) + ((Hf.cn zs k * B.P2 (15 - k) : Nat) : Int) = ((Hf.sk zs (k + 1) : Nat) : Int) := by rw [Hf.sk_succ, hx]; omega
  have h2 : Hf.cn zs k * B.P2 (15 - k) ≤ Hf.sk zs (k + 1) := by rw [Hf.sk_succ]; omega
  rw [e, i64_id ((Hf.cn zs k * B.P2 (15 - k) : Nat) : Int) (by omega) (by omega), e2, i64_id _ (by omega) (by omega)]
set_option maxHeartbeats 1000000 in
theorem maybe_any (zs : List Int) (w : World) (hl : zs.length ≤ 320) :
    Calls Tryd.prog 92 #[.agg (row16 (Hf.cn zs))] w fun e w' => e = .returned (.bool (Hf.tabB zs)) ∧ Below w.heap.size w w' := by
  go_enter Tryd.func92, Tryd.ntmps92
  go_wp2_with (first
    | (refine wl_box 40 _ _ rfl rfl rfl ?_; intro W1 b1 B1 l1 k1)
    | (refine wl_load 40 16 _ Tryd.underlying40 rfl size25 _ rfl rfl _ rfl _ _ (by assumption) (row16_size _) ?_))
  have HE := Lib.hid k1
  clear l1 k1
  go_loop [3, 7] (fun s i => MbRel zs s i) (fun _ i => 16 - (intOf i).toNat)
  case atStart => exact ⟨0, 0, by omega, rfl, rfl, rfl⟩
  case round =>
    obtain ⟨k, x, hk, rfl, rfl, hx⟩ := hrel
    have hx2 := sk_bd zs hl k
    rw [← hx] at hx2
    have HX := Lib.hid hx
    clear hx
    by_cases hlt : k < 16
    · have hcl := Hf.cn_len zs k
      have hix := row16_index (Hf.cn zs) k W1 hlt
      have HS := Lib.hid (shl_sum zs hl k x hlt HX.out)
      generalize Hf.cn zs k = y at *
      go_wp2
      rw [HS.out]
      go_round
      case rel => exact ⟨k + 1, _, by omega, by go_num, rfl, rfl⟩
      case measure => simp [intOf]; omega
    · obtain rfl : k = 16 := by omega
      by_cases e1 : x = 32768
      · have q1 : ((x : Int) == 32768) = true := by rw [beq_iff_eq]; omega
        have HT : Hid (Hf.tabB zs = true) := Lib.hid (by unfold Hf.tabB; rw [← HX.out, e1]; rfl)
        clear e1
        go_wp2
        go_ret
        exact ⟨ret_bool HT.out.symm, HE.out⟩
      · have q1 : ((x : Int) == 32768) = false := by rw [beq_eq_false_iff_ne]; omega
        have q1' : (x == 32768) = false := by rw [beq_eq_false_iff_ne]; exact e1
        by_cases e2 : x = 0
        · have q2 : ((x : Int) == 0) = true := by rw [beq_iff_eq]; omega
          have HT : Hid (Hf.tabB zs = true) := Lib.hid (by
            have := (Hf.sk_zero zs 16).1 (HX.out.symm.trans e2)
            unfold Hf.tabB; rw [← HX.out, this, q1']; rfl)
          subst e2
          clear q1'
          go_wp2
          go_ret
          exact ⟨ret_bool HT.out.symm, HE.out⟩
        · have q2 : ((x : Int) == 0) = false := by rw [beq_eq_false_iff_ne]; omega
          have HT : Hid (Hf.tabB zs = ((List.range 16).all fun n => Hf.cn zs n == one1 n)) := Lib.hid (by
            have : (Hf.st zs 16 == 0) = false := by
              rw [beq_eq_false_iff_ne]; intro h
              exact e2 (HX.out.trans ((Hf.sk_zero zs 16).2 h))
            unfold Hf.tabB; rw [← HX.out, this, q1', tab_one]; rfl)
          have heq : (Op.equalIn 10000 40 (.agg (row16 (Hf.cn zs))) (.agg #[Value.int IntKind.i64 0, Value.int IntKind.i64 1, Value.int IntKind.i64 0, Value.int IntKind.i64 0, Value.int IntKind.i64 0, Value.int IntKind.i64 0, Value.int IntKind.i64 0, Value.int IntKind.i64 0, Value.int IntKind.i64 0, Value.int IntKind.i64 0, Value.int IntKind.i64 0, Value.int IntKind.i64 0, Value.int IntKind.i64 0, Value.int IntKind.i64 0, Value.int IntKind.i64 0, Value.int IntKind.i64 0])).run Tryd.prog W1 = .ok ((List.range 16).all fun n => Hf.cn zs n == one1 n) W1 := eq16 (Hf.cn zs) one1 W1
          clear q1' e1 e2
          generalize ((List.range 16).all fun n => Hf.cn zs n == one1 n) = r at *
          go_wp2_with (refine wlg_load 40 16 _ Tryd.underlying40 rfl size25 _ rfl rfl _ rfl _ _ B1 (row16_size _) ?_)
          go_ret
          exact ⟨ret_bool HT.out.symm, HE.out⟩
end Go.Proofs.YtddiccdfeckgaaaDoor
/- Layer 4: how many codes of each length there are, or the error. -/
namespace Go.Proofs.YtddiccdfeckgaaaDoor
open Go.RowKit
set_option linter.unusedVariables false
set_option maxRecDepth 100000

/-- numbers that a slice reads as -/
def Ints (w : World) (zs : List Int) (a : Option Addr) (b o : Nat) : Prop :=
  (zs.length = 0 ∨ a = some ⟨b, o, none⟩) ∧ (∀ i (h : i < zs.length), -9223372036854775808 ≤ zs[i] ∧ zs[i] ≤ 9223372036854775807) ∧ ∀ i (h : i < zs.length), w.cell? ⟨b, o + i, none⟩ = some (.int .i64 zs[i])
theorem Ints.lt {w : World} {zs : List Int} {a : Option Addr} {b o : Nat} (h : Ints w zs a b o) (h0 : 0 < zs.length) : b < w.heap.size := block_lt_of_cell (h.2.2 0 h0)
theorem Ints.keep {w w' : World} {zs : List Int} {a : Option Addr} {b o : Nat} (h : Ints w zs a b o) (hb : Below w.heap.size w w') : Ints w' zs a b o :=
  ⟨h.1, h.2.1, fun i hi => by rw [hb.cell (p := ⟨b, o + i, none⟩) (h.lt (by omega))]; exact h.2.2 i hi⟩
theorem Ints.at {w w' : World} {zs : List Int} {a : Option Addr} {b o : Nat} (h : Ints w zs a b o) (hb : Below w.heap.size w w') (i : Nat) (hi : i < zs.length) : a = some ⟨b, o, none⟩ ∧ -9223372036854775808 ≤ zs[i] ∧ zs[i] ≤ 9223372036854775807 ∧ w'.cell? ⟨b, o + i, none⟩ = some (.int .i64 zs[i]) :=
  ⟨h.1.resolve_left (by omega), (h.2.1 i hi).1, (h.2.1 i hi).2, (h.keep hb).2.2 i hi⟩

/-- the error's number -/
def errN (zs : List Int) : Nat := if 320 < zs.length then 1 else if zs.any (fun z => z < 0 || 15 < z) then 1 else if Hf.tabB zs then 0 else 4
theorem errN_long (zs : List Int) (h : 320 < zs.length) : errN zs = 1 := by unfold errN; rw [if_pos h]
theorem errN_bad (zs : List Int) (h : zs.length ≤ 320) (i : Nat) (hi : i < zs.length) (hb : zs[i] < 0 ∨ 15 < zs[i]) : errN zs = 1 := by
  unfold errN
  rw [if_neg (by omega), if_pos]
  rw [List.any_eq_true]
  exact ⟨zs[i], List.getElem_mem hi, by simpa using hb⟩
theorem any_false (zs : List Int) (h : Hf.inR zs) : zs.any (fun z => z < 0 || 15 < z) = false := by
  rw [List.any_eq_false]
  intro z hz
  obtain ⟨i, hi, rfl⟩ := List.getElem_of_mem hz
  have := h i hi
  simp
  omega
theorem errN_tab (zs : List Int) (h : zs.length ≤ 320) (hr : Hf.inR zs) : errN zs = if Hf.tabB zs then 0 else 4 := by
  unfold errN
  rw [if_neg (by omega), if_neg (by rw [any_false zs hr]; simp)]
theorem errN_ok {zs : List Int} (h : errN zs = 0) : zs.length ≤ 320 ∧ Hf.inR zs ∧ Hf.tabB zs = true := by
  unfold errN at h
  by_cases h1 : 320 < zs.length
  · rw [if_pos h1] at h; omega
  · rw [if_neg h1] at h
    by_cases h2 : zs.any (fun z => z < 0 || 15 < z) = true
    · rw [if_pos h2] at h; omega
    · rw [if_neg h2] at h
      refine ⟨by omega, ?_, ?_⟩
      · intro i hi
        have h3 : zs.any (fun z => z < 0 || 15 < z) = false := by simpa using h2
        rw [List.any_eq_false] at h3
        have := h3 zs[i] (List.getElem_mem hi)
        simp at this
        omega
      · by_cases h3 : Hf.tabB zs = true
        · exact h3
        · rw [if_neg h3] at h; omega
theorem errN_cases (zs : List Int) : errN zs = 0 ∨ errN zs = 1 ∨ errN zs = 4 := by unfold errN; repeat' split
                                                                                   all_goals omega

def CoRel (zs : List Int) (w : World) (b2 b4 : Nat) (i : Value) (wr : World) : Prop :=
  ∃ k : Nat, k ≤ zs.length ∧ i = .int .i64 k ∧ (∀ j (h : j < zs.length), j < k → 0 ≤ zs[j] ∧ zs[j] ≤ 15) ∧ Blk wr b2 (row16 fun _ => 0) 40 ∧ Blk wr b4 (row16 (Hf.cn (zs.take k))) 40 ∧ Below w.heap.size w wr
theorem row_inc (zs : List Int) (k m : Nat) (h : k < zs.length) (hm : zs[k] = (m : Int)) (h0 : 0 < m) :
    (row16 (Hf.cn (zs.take k))).setIfInBounds m (.int .i64 ((Hf.cn (zs.take k) m : Int) + 1)) = row16 (Hf.cn (zs.take (k + 1))) := by
  have e : ((Hf.cn (zs.take k) m : Int) + 1) = ((Hf.cn (zs.take k) m + 1 : Nat) : Int) := by omega
  rw [e, row16_set]
  apply row16_congr
  intro n hn
  rw [Hf.cn_take zs k n h]
  by_cases e2 : n = m
  · subst e2; rw [if_pos rfl, if_pos ⟨h0, hm⟩]
  · rw [if_neg e2, if_neg (by omega)]; rfl
theorem row_same (zs : List Int) (k : Nat) (h : k < zs.length) (hm : zs[k] = 0) : row16 (Hf.cn (zs.take k)) = row16 (Hf.cn (zs.take (k + 1))) := by
  apply row16_congr
  intro n hn
  rw [Hf.cn_take zs k n h, if_neg (by omega)]; rfl
theorem row_none : row16 (Hf.cn []) = row16 (fun _ => 0) := row16_congr _ _ (fun n _ => Hf.cn_nil n)
/-- what counted answers -/
def cntV (zs : List Int) : Value := .tuple #[.agg (if errN zs = 0 then row16 (Hf.cn zs) else row16 fun _ => 0), .int .i64 (errN zs : Int)]
theorem cntV_bad {zs : List Int} {n : Nat} (h : errN zs = n) (h0 : n ≠ 0) : cntV zs = .tuple #[.agg (row16 fun _ => 0), .int .i64 (n : Int)] := by unfold cntV; rw [if_neg (by omega), h]
theorem cntV_ok {zs : List Int} (h : errN zs = 0) : cntV zs = .tuple #[.agg (row16 (Hf.cn zs)), .int .i64 0] := by unfold cntV; rw [if_pos h, h]; rfl
theorem counted_long (n : Nat) (a : Option Addr) (c : Nat) (w : World) (h : 320 < n) (h2 : n ≤ 9223372036854775807) :
    Calls Tryd.prog 80 #[.slice a n c] w fun e w' => e = .returned (.tuple #[.agg (row16 fun _ => 0), .int .i64 1]) ∧ Below w.heap.size w w' := by
  have p1 : decide (320 < (n : Int)) = true := by simp; omega
  go_enter Tryd.func80, Tryd.ntmps80
  go_wp2_with (first
    | (refine wl_alloc 40 _ zero25 rfl rfl ?_; intro W1 b1 B1 l1 k1)
    | (refine wl_store 40 16 size25 _ _ rfl rfl _ rfl (row16 fun _ => 0) rfl _ _ B1 (row16_size _) (row16_size _) (row16_one _) ?_; intro W5 hB5 hT5))
  exact post_cell_tmp (v := .int .i64 1) (cs := row16 fun _ => 0) Tryd.underlying40 rfl size25 Tryd.results80 hB5 (row16_size _) rfl rfl rfl ⟨rfl, hT5.below k1 l1⟩
set_option maxHeartbeats 2000000 in
theorem counted_few (zs : List Int) (a : Option Addr) (b o c : Nat) (w : World) (hl : zs.length ≤ 320) (ha : Hid (Ints w zs a b o)) :
    Calls Tryd.prog 80 #[.slice a zs.length c] w fun e w' => e = .returned (cntV zs) ∧ Below w.heap.size w w' := by
  have p1 : decide (320 < (zs.length : Int)) = false := by simp; omega
  go_enter Tryd.func80, Tryd.ntmps80
  go_wp2_with (refine wl_alloc 40 _ zero25 rfl rfl ?_; intro _ _ _ _ _)
  rename_i W2 b2 B2 l2 k2 W3 b4 B4 l3 k3 K hK
  have n1 : b2 < W2.heap.size := B2.lt
  have C2 := Blk.keep B2 k3
  have HE := Lib.hid (bq_trans k2 k3)
  have s1 := k2.size
  have g2 : w.heap.size ≤ b2 := by omega
  have g4 : w.heap.size ≤ b4 := by omega
  have n2 : b2 ≠ b4 := by omega
  clear B2 l2 k2 l3 k3 s1 n1 p1
  go_loopw [13] (fun i wr => CoRel zs w b2 b4 i wr) (fun i _ => zs.length - (intOf i).toNat)
  case atStart => exact ⟨0, by omega, rfl, fun j h h2 => by omega, C2, by rw [List.take_zero, row_none]; exact B4, HE.out⟩
  case round =>
    obtain ⟨k, hk, rfl, hr, hb2, hb4, hbel⟩ := hrel
    have HR := Lib.hid hr
    have HB := Lib.hid hbel
    clear hr hbel C2 B4 HE
    by_cases hlt : k < zs.length
    · obtain ⟨rfl, hz0, hz1, hcell⟩ := ha.out.at HB.out k hlt
      obtain ⟨z, hz⟩ : ∃ z, z = zs[k] := ⟨_, rfl⟩
      rw [← hz] at hz0 hz1 hcell
      have HZ := Lib.hid hz
      clear hz
      by_cases c1 : z < 0
      · have HN := Lib.hid (errN_bad zs hl k hlt (Or.inl (HZ.out ▸ c1)))
        go_wp2_with (refine wl_store 40 16 size25 _ _ rfl rfl _ rfl (row16 fun _ => 0) rfl _ _ hb2 (row16_size _) (row16_size _) (row16_one _) ?_; intro W5 hB5 hT5)
        exact post_cell_tmp (v := .int .i64 1) (cs := row16 fun _ => 0) Tryd.underlying40 rfl size25 Tryd.results80 hB5 (row16_size _) rfl rfl rfl ⟨by rw [cntV_bad HN.out (by omega)]; rfl, hT5.below HB.out g2⟩
      · by_cases c2 : 15 < z
        · have HN := Lib.hid (errN_bad zs hl k hlt (Or.inr (HZ.out ▸ c2)))
          go_wp2_with (refine wl_store 40 16 size25 _ _ rfl rfl _ rfl (row16 fun _ => 0) rfl _ _ hb2 (row16_size _) (row16_size _) (row16_one _) ?_; intro W5 hB5 hT5)
          exact post_cell_tmp (v := .int .i64 1) (cs := row16 fun _ => 0) Tryd.underlying40 rfl size25 Tryd.results80 hB5 (row16_size _) rfl rfl rfl ⟨by rw [cntV_bad HN.out (by omega)]; rfl, hT5.below HB.out g2⟩
        · have HR2 : Hid (∀ j (h : j < zs.length), j < k + 1 → 0 ≤ zs[j] ∧ zs[j] ≤ 15) := Lib.hid (by
            intro j h hj
            by_cases e : j = k
            · subst e; rw [← HZ.out]; omega
            · exact HR.out j h (by omega))
          clear HR
          by_cases c3 : 0 < z
          · obtain ⟨m, rfl⟩ : ∃ m : Nat, z = (m : Int) := ⟨z.toNat, by omega⟩
            have hm : m < 16 := by omega
            have hc := (hb4.cell m).trans (row16_at (Hf.cn (zs.take k)) m hm)
            have hf := hb4.frozen m
            have hcl := Hf.cn_len (zs.take k) m
            have hcl2 : (zs.take k).length ≤ 320 := by rw [List.length_take]; omega
            have HS := Lib.hid (hb4.set m (.int .i64 ((Hf.cn (zs.take k) m : Int) + 1)))
            rw [row_inc zs k m hlt HZ.out.symm (by omega)] at HS
            generalize Hf.cn (zs.take k) m = y at *
            generalize (zs.take k).length = q at *
            go_wp2
            go_roundw
            case rel => exact ⟨k + 1, by omega, by go_num, HR2.out, hb2.other _ (by show b2 ≠ b4; exact n2), HS.out, bq_set HB.out _ g4 _⟩
            case measure => simp [intOf]; omega
          · obtain rfl : z = 0 := by omega
            rw [row_same zs k hlt HZ.out.symm] at hb4
            go_wp2
            go_roundw
            case rel => exact ⟨k + 1, by omega, by go_num, HR2.out, hb2, hb4, HB.out⟩
            case measure => simp [intOf]; omega
    · obtain rfl : k = zs.length := by omega
      rw [List.take_length] at hb4
      have hin : Hf.inR zs := fun i h => HR.out i h h
      have hen := errN_tab zs hl hin
      have HM := Lib.hid (fun w => maybe_any zs w hl)
      cases ht : Hf.tabB zs with
      | true =>
        rw [ht] at HM hen
        have HN := Lib.hid hen
        clear hen hin HR ha ht
        go_wp2_with (first
          | (refine wl_load 40 16 _ Tryd.underlying40 rfl size25 _ rfl rfl _ rfl _ _ (by first | exact hb4 | exact hb4.keep hb5) (row16_size _) ?_)
          | (go_at_call 92; refine (HM.out _).mono ?_; rintro e w5 ⟨rfl, hb5⟩)
          | (refine wl_store 40 16 size25 _ _ rfl rfl _ rfl _ rfl _ _ (hb2.keep hb5) (row16_size _) (row16_size _) (row16_one _) ?_; intro W5 hB5 hT5))
        exact post_cell_tmp (v := .int .i64 0) Tryd.underlying40 rfl size25 Tryd.results80 hB5 (row16_size _) rfl rfl rfl ⟨by rw [cntV_ok HN.out], hT5.below (bq_trans HB.out hb5) g2⟩
      | false =>
        rw [ht] at HM hen
        have HN : Hid (errN zs = 4) := Lib.hid (hen.trans rfl)
        clear hen hin HR ha ht
        go_wp2_with (first
          | (refine wl_load 40 16 _ Tryd.underlying40 rfl size25 _ rfl rfl _ rfl _ _ hb4 (row16_size _) ?_)
          | (go_at_call 92; refine (HM.out _).mono ?_; rintro e w5 ⟨rfl, hb5⟩)
          | (refine wl_store 40 16 size25 _ _ rfl rfl _ rfl (row16 fun _ => 0) rfl _ _ (hb2.keep hb5) (row16_size _) (row16_size _) (row16_one _) ?_; intro W5 hB5 hT5))
        exact post_cell_tmp (v := .int .i64 4) (cs := row16 fun _ => 0) Tryd.underlying40 rfl size25 Tryd.results80 hB5 (row16_size _) rfl rfl rfl ⟨by rw [cntV_bad HN.out (by omega)]; rfl, hT5.below (bq_trans HB.out hb5) g2⟩
theorem counted_any (zs : List Int) (a : Option Addr) (b o c : Nat) (w : World) (hl : zs.length ≤ 9223372036854775807) (ha : Hid (Ints w zs a b o)) :
    Calls Tryd.prog 80 #[.slice a zs.length c] w fun e w' => e = .returned (cntV zs) ∧ Below w.heap.size w w' := by
  by_cases h : 320 < zs.length
  · rw [cntV_bad (errN_long zs h) (by omega)]
    exact counted_long zs.length a c w h hl
  · exact counted_few zs a b o c w (by omega) ha
end Go.Proofs.YtddiccdfeckgaaaDoor
/- Layer 4: the codes of lengths. -/
namespace Go.Proofs.YtddiccdfeckgaaaDoor
open Go.RowKit
set_option linter.unusedVariables false

/-- n numbers -/
def intA (f : Nat → Nat) (n : Nat) : Array Value := ((List.range n).map fun i => Value.int .i64 (f i : Int)).toArray
theorem intA_size (f : Nat → Nat) (n : Nat) : (intA f n).size = n := by simp [intA]
theorem intA_at (f : Nat → Nat) (n k : Nat) (h : k < n) : (intA f n)[k]? = some (.int .i64 (f k : Int)) := by simp [intA, h]
theorem intA_congr (f g : Nat → Nat) (n : Nat) (h : ∀ i, i < n → f i = g i) : intA f n = intA g n := by
  unfold intA
  apply Array.ext
  · simp
  · intro i h1 h2
    simp only [List.size_toArray, List.length_map, List.length_range] at h1
    simp [h i h1]
theorem intA_set (f : Nat → Nat) (n k v : Nat) : (intA f n).setIfInBounds k (.int .i64 (v : Int)) = intA (fun i => if i = k then v else f i) n := by
  apply Array.ext
  · simp [intA]
  · intro i h1 h2
    simp only [Array.size_setIfInBounds] at h1
    rw [Array.getElem_setIfInBounds h1]
    simp only [intA, List.getElem_toArray, List.getElem_map, List.getElem_range]
    by_cases e : k = i
    · subst e; simp
    · rw [if_neg e, if_neg (by omega)]
theorem intA_zero (n : Nat) : Array.replicate n (Value.int .i64 0) = intA (fun _ => 0) n := by
  apply Array.ext
  · simp [intA]
  · intro i h1 h2
    simp [intA]
theorem info3 : (Tryd.prog.info? 3).map (fun i => (i.zero, i.size, i.bytes)) = some (some (.int .i64 0), 1, 8) := by kernel_rfl
section
variable {ops : Array Oper} {rest : List Oper} {o : Oper} {a : Act} {w : World} {Q : Exit → Act → World → Prop}
theorem wl_ints (l c : Operand) (ho : o.op = .makeSlice 41 l c) (hgd : o.guard = none) (n : Nat) (hl : a.eval l = .int .i64 (n : Int)) (hcc : a.eval c = .int .i64 (n : Int)) (hn : n ≤ 1000000)
    (h : ∀ W b, Blk W b (intA (fun _ => 0) n) 3 → w.heap.size ≤ b → Below w.heap.size w W → wpList Tryd.prog ops Q rest (a.put o.dst (.slice (some ⟨b, 0, none⟩) n n)) W) : wpList Tryd.prog ops Q (o :: rest) a w := by
  have hi := info3
  cases hq : Tryd.prog.info? 3 with
  | none => rw [hq] at hi; cases hi
  | some i =>
    rw [hq] at hi
    simp only [Option.map_some, Option.some.injEq, Prod.mk.injEq] at hi
    refine wl_make 41 3 i (.int .i64 0) Tryd.underlying41 hq hi.1 hi.2.1 (by omega) rfl l c ho hgd n hl hcc hn ?_
    rw [intA_zero]
    exact h
end
def CdRel (zs : List Int) (w : World) (b6 b7 : Nat) (i : Value) (wr : World) : Prop :=
  ∃ k : Nat, k ≤ zs.length ∧ i = .int .i64 k ∧ Blk wr b6 (row16 fun n => Hf.fs zs n + Hf.cn (zs.take k) n) 40 ∧ Blk wr b7 (intA (upto (Hf.cd zs) k) zs.length) 3 ∧ Below w.heap.size w wr
theorem cd_step (zs : List Int) (k : Nat) : (intA (upto (Hf.cd zs) k) zs.length).setIfInBounds k (.int .i64 (Hf.cd zs k : Int)) = intA (upto (Hf.cd zs) (k + 1)) zs.length := by
  rw [intA_set]
  apply intA_congr
  intro n hn
  unfold upto
  by_cases h : n = k
  · subst h; rw [if_pos rfl, if_pos (by omega)]
  · rw [if_neg h]
    by_cases h2 : n < k
    · rw [if_pos h2, if_pos (by omega)]
    · rw [if_neg h2, if_neg (by omega)]
theorem cd_skip (zs : List Int) (k : Nat) (h : k < zs.length) (h0 : zs[k] = 0) : intA (upto (Hf.cd zs) k) zs.length = intA (upto (Hf.cd zs) (k + 1)) zs.length := by
  apply intA_congr
  intro n hn
  unfold upto
  by_cases e : n = k
  · subst e; rw [if_neg (by omega), if_pos (by omega), Hf.cd_zero zs n h h0]
  · by_cases h2 : n < k
    · rw [if_pos h2, if_pos (by omega)]
    · rw [if_neg h2, if_neg (by omega)]
theorem up_start (f : Nat → Nat) (n : Nat) : intA (upto f 0) n = intA (fun _ => 0) n := intA_congr _ _ _ (fun i _ => by unfold upto; rw [if_neg (by omega)])
theorem up_end (f : Nat → Nat) (n : Nat) : intA (upto f n) n = intA f n := intA_congr _ _ _ (fun i h => by unfold upto; rw [if_pos h])
theorem nxt_inc (g : Nat → Nat) (zs : List Int) (k m : Nat) (h : k < zs.length) (hm : zs[k] = (m : Int)) (h0 : 0 < m) :
    (row16 fun n => g n + Hf.cn (zs.take k) n).setIfInBounds m (.int .i64 (((g m + Hf.cn (zs.take k) m : Nat) : Int) + 1)) = row16 fun n => g n + Hf.cn (zs.take (k + 1)) n := by
  have e : (((g m + Hf.cn (zs.take k) m : Nat) : Int) + 1) = ((g m + Hf.cn (zs.take k) m + 1 : Nat) : Int) := by omega
  rw [e, row16_set]
  apply row16_congr
  intro n hn
  show (if n = m then _ else _) = _
  rw [Hf.cn_take zs k n h]
  by_cases e2 : n = m
  · subst e2; rw [if_pos rfl, if_pos ⟨h0, hm⟩]; rfl
  · rw [if_neg e2, if_neg (by omega)]; rfl
theorem nxt_same (g : Nat → Nat) (zs : List Int) (k : Nat) (h : k < zs.length) (hm : zs[k] = 0) : (row16 fun n => g n + Hf.cn (zs.take k) n) = row16 fun n => g n + Hf.cn (zs.take (k + 1)) n := by
  apply row16_congr
  intro n hn
  show g n + _ = g n + _
  rw [Hf.cn_take zs k n h, if_neg (by omega)]; rfl
theorem nxt_start (g : Nat → Nat) (zs : List Int) : (row16 fun n => g n + Hf.cn (zs.take 0) n) = row16 g := by
  apply row16_congr
  intro n hn
  rw [List.take_zero, Hf.cn_nil]; rfl
theorem cd_bd (zs : List Int) (hl : zs.length ≤ 320) (k : Nat) : Hf.cd zs k ≤ 20000000 ∨ 15 < (zs.getD k 0).toNat := by
  by_cases h : (zs.getD k 0).toNat ≤ 15
  · left
    have h1 := fs_bd zs hl _ h
    have h2 := Hf.cn_len (zs.take k) (zs.getD k 0).toNat
    have h3 : (zs.take k).length ≤ 320 := by rw [List.length_take]; omega
    unfold Hf.cd
    split <;> omega
  · right; omega
def CodesPost (zs : List Int) (w : World) (e : Ending) (w' : World) : Prop :=
  ∃ b, w.heap.size ≤ b ∧ Blk w' b (intA (Hf.cd zs) zs.length) 3 ∧ e = .returned (.tuple #[.slice (some ⟨b, 0, none⟩) zs.length zs.length, .int .i64 0]) ∧ Below w.heap.size w w'
end Go.Proofs.YtddiccdfeckgaaaDoor
/- Layer 4: the table of lengths. -/
namespace Go.Proofs.YtddiccdfeckgaaaDoor
open Go.RowKit
set_option linter.unusedVariables false
set_option maxRecDepth 100000

/-- a table's cells: how many codes of each length there are; the symbols -/
def tabA (f : Nat → Nat) (a : Option Addr) (n : Nat) : Array Value := ((List.range 16).map (fun i => Value.int .i64 (f i : Int)) ++ [Value.slice a n n]).toArray
theorem tabA_size (f : Nat → Nat) (a : Option Addr) (n : Nat) : (tabA f a n).size = 17 := by simp [tabA]
theorem tabA_one (f : Nat → Nat) (a : Option Addr) (n : Nat) : (tabA f a n).all (·.oneCell') = true := by
  rw [Array.all_eq_true_iff_forall_mem]
  intro v hv
  simp only [tabA, List.mem_toArray, List.mem_append, List.mem_map, List.mem_singleton] at hv
  rcases hv with ⟨n, _, rfl⟩ | rfl
  · rfl
  · rfl
theorem tabA_at (f : Nat → Nat) (a : Option Addr) (n k : Nat) (h : k < 16) : (tabA f a n)[k]? = some (.int .i64 (f k : Int)) := by
  simp only [tabA, List.getElem?_toArray]
  rw [List.getElem?_append_left (by simpa using h)]
  simp [h]
theorem tabA_sl (f : Nat → Nat) (a : Option Addr) (n : Nat) : (tabA f a n)[16]? = some (.slice a n n) := by
  simp only [tabA, List.getElem?_toArray]
  rw [List.getElem?_append_right (by simp)]
  simp
theorem zero27 (w : World) : (zeroValue 43).run Tryd.prog w = .ok (.agg (tabA (fun _ => 0) none 0)) w := Tryd.zeroValue43 w
theorem built27 (f : Nat → Nat) (a : Option Addr) (n : Nat) : Tryd.prog.built 43 [(0, .agg (row16 f)), (1, .slice a n n)] = some (tabA f a n) := by kernel_rfl
/-- what New tells of lengths that may be a table: the symbols lie in a block of their own -/
def NewPost (zs : List Int) (w : World) (e : Ending) (w' : World) : Prop :=
  ∃ b, w.heap.size ≤ b ∧ Blk w' b (intA (Hf.sy zs zs.length) (Hf.st zs 16)) 3 ∧ e = .returned (.tuple #[.agg (tabA (Hf.cn zs) (some ⟨b, 0, none⟩) (Hf.st zs 16)), .int .i64 0]) ∧ Below w.heap.size w w'
def NwRel (zs : List Int) (w : World) (b2 b4 b6 b8 : Nat) (i : Value) (wr : World) : Prop :=
  ∃ k : Nat, k ≤ zs.length ∧ i = .int .i64 k ∧ Blk wr b2 (tabA (fun _ => 0) none 0) 43 ∧ Blk wr b4 (row16 (Hf.cn zs)) 40 ∧ Blk wr b6 (row16 fun n => Hf.st zs n + Hf.cn (zs.take k) n) 40 ∧ Blk wr b8 (intA (Hf.sy zs k) (Hf.st zs 16)) 3 ∧ Below w.heap.size w wr
theorem sy_step (zs : List Int) (k N : Nat) (h : k < zs.length) (h0 : 0 < zs[k]) : (intA (Hf.sy zs k) N).setIfInBounds (Hf.pos zs k) (.int .i64 (k : Int)) = intA (Hf.sy zs (k + 1)) N := by
  rw [intA_set]
  apply intA_congr
  intro n hn
  rw [Hf.sy_pos zs k h h0]
theorem sy_skip (zs : List Int) (k N : Nat) (h : k < zs.length) (h0 : zs[k] = 0) : intA (Hf.sy zs k) N = intA (Hf.sy zs (k + 1)) N := by
  apply intA_congr
  intro n hn
  rw [Hf.sy_none zs k h (by omega)]
theorem new_bad (zs : List Int) (a : Option Addr) (b o c n : Nat) (w : World) (hl : zs.length ≤ 9223372036854775807) (ha : Hid (Ints w zs a b o)) (he : errN zs = n) (h0 : n = 1 ∨ n = 4) :
    Calls Tryd.prog 63 #[.slice a zs.length c] w fun e w' => e = .returned (.tuple #[.agg (tabA (fun _ => 0) none 0), .int .i64 (n : Int)]) ∧ Below w.heap.size w w' := by
  have HC := fun W (h : Below w.heap.size w W) => counted_any zs a b o c W hl (Lib.hid (ha.out.keep h))
  rw [cntV_bad he (by omega)] at HC
  have HC2 := Lib.hid HC
  have q : ((n : Int) != 0) = true := by rw [bne_iff_ne]; omega
  clear HC he ha
  go_enter Tryd.func63, Tryd.ntmps63
  go_wp2_with (first
    | (refine wl_alloc 43 _ zero27 rfl rfl ?_; intro W0 b0 B0 l0 k0)
    | (go_at_call 80; refine (HC2.out _ k0).mono ?_; rintro e w5 ⟨rfl, hb5⟩)
    | (refine wl_alloc 40 _ zero25 rfl rfl ?_; intro W1 b1 B1 l1 k1)
    | (refine wl_store 40 16 size25 _ _ rfl rfl _ rfl (row16 fun _ => 0) rfl _ _ B1 (row16_size _) (row16_size _) (row16_one _) ?_; intro W5 hB5 hT5)
    | (refine wl_store 43 17 size27 _ _ rfl rfl _ rfl (tabA (fun _ => 0) none 0) rfl _ _ (hT5.blk ((B0.keep hb5).keep k1) (by have := (B0.keep hb5).lt; omega)) (tabA_size _ _ _) (tabA_size _ _ _) (tabA_one _ _ _) ?_; intro W6 hB6 hT6))
  exact post_cell_tmp (v := .int .i64 (n : Int)) Tryd.underlying43 rfl size27 Tryd.results63 hB6 (tabA_size _ _ _) rfl rfl rfl ⟨rfl, hT6.below (hT5.below (bq_trans (bq_trans k0 hb5) k1) (by have := hb5.size; have := k0.size; omega)) l0⟩
set_option maxHeartbeats 2000000 in
theorem new_ok (zs : List Int) (a : Option Addr) (b o c : Nat) (w : World) (ha : Hid (Ints w zs a b o)) (he : errN zs = 0) :
    Calls Tryd.prog 63 #[.slice a zs.length c] w fun e w' => NewPost zs w e w' := by
  obtain ⟨hl, hin, htab⟩ := errN_ok he
  have HC := fun W (h : Below w.heap.size w W) => counted_any zs a b o c W (by omega) (Lib.hid (ha.out.keep h))
  rw [cntV_ok he] at HC
  have HC2 := Lib.hid HC
  have HF := Lib.hid (fun w => starts_any zs w hl)
  have HIN := Lib.hid hin
  have hst := Hf.st_len zs 16
  clear HC he hin htab
  go_enter Tryd.func63, Tryd.ntmps63
  go_upto_region 4 with (first
    | (refine wl_alloc 43 _ zero27 rfl rfl ?_; intro W0 b0 B0 l0 k0)
    | (go_at_call 80; refine (HC2.out _ k0).mono ?_; rintro e w5 ⟨rfl, hb5⟩)
    | (refine wl_alloc 40 _ zero25 rfl rfl ?_; intro W1 b1 B1 l1 k1)
    | (refine wl_store 40 16 size25 _ _ rfl rfl _ rfl _ rfl _ _ B1 (row16_size _) (row16_size _) (row16_one _) ?_; intro W5 hB5 hT5))
  have y0 := k0.size
  have y1 := hb5.size
  have y2 := B0.lt
  have y3 := B1.lt
  have C0 := hT5.blk ((B0.keep hb5).keep k1) (by omega)
  have H1 := Lib.hid (hT5.below (bq_trans (bq_trans k0 hb5) k1) (by omega))
  have g0 : w.heap.size ≤ b0 := l0
  have g1 : w.heap.size ≤ b1 := by omega
  have m0 : b0 ≠ b1 := by omega
  clear HC2 hT5 hb5 B1 l1 k1 B0 k0 l0 y0 y1 y2 y3
  generalize hN : Hf.st zs 16 = N at *
  have HN := Lib.hid hN
  clear hN
  go_wp2_with (first
    | (refine wl_load 40 16 _ Tryd.underlying40 rfl size25 _ rfl rfl _ rfl _ _ hB5 (row16_size _) ?_)
    | (go_at_call 81; refine (HF.out _).mono ?_; rintro e w6 ⟨rfl, hb6⟩)
    | (refine wl_alloc 40 _ zero25 rfl rfl ?_; intro W6 b6 B6 l6 k6)
    | (refine wl_store 40 16 size25 _ _ rfl rfl _ rfl _ rfl _ _ B6 (row16_size _) (row16_size _) (row16_one _) ?_; intro W7 hB7 hT7)
    | (refine wl_ints _ _ rfl rfl N rfl rfl (by omega) ?_; intro W8 b8 B8 l8 k8))
  have z1 := H1.out.size
  have z2 := hb6.size
  have z3 := k6.size
  have z4 := hT7.size
  have z5 : b6 < W6.heap.size := B6.lt
  have z6 := C0.lt
  have z7 := hB5.lt
  have C7 := hB7.keep k8
  have C0' := (hT7.blk ((C0.keep hb6).keep k6) (by omega)).keep k8
  have C1' := (hT7.blk ((hB5.keep hb6).keep k6) (by omega)).keep k8
  have HE := Lib.hid (bq_trans (hT7.below (bq_trans (bq_trans H1.out hb6) k6) (by omega)) k8)
  have g6 : w.heap.size ≤ b6 := by omega
  have g8 : w.heap.size ≤ b8 := by omega
  have n1 : b6 ≠ b8 := by omega
  have n2 : b8 ≠ b6 := by omega
  have p06 : b0 ≠ b6 := by omega
  have p08 : b0 ≠ b8 := by omega
  have p16 : b1 ≠ b6 := by omega
  have p18 : b1 ≠ b8 := by omega
  clear hB5 C0 H1 hb6 B6 l6 k6 hB7 hT7 l8 k8 z1 z2 z3 z4 z5 z6 z7 HF
  go_loopw [29] (fun i wr => NwRel zs w b0 b1 b6 b8 i wr) (fun i _ => zs.length - (intOf i).toNat)
  case atStart => exact ⟨0, by omega, rfl, C0', C1', by rw [nxt_start]; exact C7, by rw [HN.out]; exact B8, HE.out⟩
  case round =>
    obtain ⟨k, hk, rfl, hb0, hb1, hb6, hb8, hbel⟩ := hrel
    rw [HN.out] at hb8
    have HB := Lib.hid hbel
    clear hbel C7 B8 HE C0' C1'
    by_cases hlt : k < zs.length
    · obtain ⟨rfl, hz0, hz1, hcell⟩ := ha.out.at HB.out k hlt
      have hin := HIN.out k hlt
      obtain ⟨z, hz⟩ : ∃ z, z = zs[k] := ⟨_, rfl⟩
      rw [← hz] at hz0 hz1 hcell hin
      have HZ := Lib.hid hz
      clear hz
      by_cases c3 : 0 < z
      · obtain ⟨m, rfl⟩ : ∃ m : Nat, z = (m : Int) := ⟨z.toNat, by omega⟩
        have hm : m < 16 := by omega
        have epos : Hf.pos zs k = Hf.st zs m + Hf.cn (zs.take k) m := Hf.pos_at zs k m hlt HZ.out.symm
        have hpl : Hf.pos zs k < N := by
          have a1 := Hf.pos_lt zs k m hlt HZ.out.symm (by omega)
          have a2 := Hf.st_mono zs (a := m + 1) (b := 16) (by omega)
          rw [HN.out] at a2
          omega
        have h6 := (hb6.cell m).trans (row16_at _ m hm)
        have f6 := hb6.frozen m
        have h8 := (hb8.cell (Hf.pos zs k)).trans (intA_at _ _ _ hpl)
        have f8 := hb8.frozen (Hf.pos zs k)
        have HS6 := Lib.hid ((hb6.other (a := ⟨b8, Hf.pos zs k, none⟩) (.int .i64 (k : Int)) n1).set m (.int .i64 (((Hf.st zs m + Hf.cn (zs.take k) m : Nat) : Int) + 1)))
        rw [nxt_inc (Hf.st zs) zs k m hlt HZ.out.symm (by omega)] at HS6
        have HS8 := Lib.hid ((hb8.set (Hf.pos zs k) (.int .i64 (k : Int))).other (a := ⟨b6, m, none⟩) (.int .i64 (((Hf.st zs m + Hf.cn (zs.take k) m : Nat) : Int) + 1)) n2)
        rw [sy_step zs k N hlt (by rw [← HZ.out]; omega)] at HS8
        have HS0 := Lib.hid ((hb0.other (a := ⟨b8, Hf.pos zs k, none⟩) (.int .i64 (k : Int)) p08).other (a := ⟨b6, m, none⟩) (.int .i64 (((Hf.st zs m + Hf.cn (zs.take k) m : Nat) : Int) + 1)) p06)
        have HS1 := Lib.hid ((hb1.other (a := ⟨b8, Hf.pos zs k, none⟩) (.int .i64 (k : Int)) p18).other (a := ⟨b6, m, none⟩) (.int .i64 (((Hf.st zs m + Hf.cn (zs.take k) m : Nat) : Int) + 1)) p16)
        rw [← epos] at h6 HS6 HS8 HS0 HS1
        clear hb6 hb8 hb0 hb1 epos
        generalize Hf.pos zs k = x at *
        generalize Hf.sy zs k x = y at *
        go_wp2
        go_roundw
        case rel => exact ⟨k + 1, by omega, by go_num, HS0.out, HS1.out, HS6.out, by rw [HN.out]; exact HS8.out, bq_set (bq_set HB.out _ g8 _) _ g6 _⟩
        case measure => simp [intOf]; omega
      · obtain rfl : z = 0 := by omega
        rw [nxt_same (Hf.st zs) zs k hlt HZ.out.symm] at hb6
        rw [sy_skip zs k N hlt HZ.out.symm] at hb8
        go_wp2
        go_roundw
        case rel => exact ⟨k + 1, by omega, by go_num, hb0, hb1, hb6, by rw [HN.out]; exact hb8, HB.out⟩
        case measure => simp [intOf]; omega
    · obtain rfl : k = zs.length := by omega
      go_wp2_with (first
        | (refine wl_load 40 16 _ Tryd.underlying40 rfl size25 _ rfl rfl _ rfl _ _ hb1 (row16_size _) ?_)
        | (refine wlg_build 43 _ _ (built27 (Hf.cn zs) (some ⟨b8, 0, none⟩) N) _ rfl rfl rfl ?_)
        | (refine wl_store 43 17 size27 _ _ rfl rfl _ rfl _ rfl _ _ hb0 (tabA_size _ _ _) (tabA_size _ _ _) (tabA_one _ _ _) ?_; intro W6 hB6 hT6))
      refine post_cell_tmp (v := .int .i64 0) Tryd.underlying43 rfl size27 Tryd.results63 hB6 (tabA_size _ _ _) rfl rfl rfl ?_
      exact ⟨b8, g8, by rw [HN.out]; exact hT6.blk hb8 (Ne.symm p08), by rw [HN.out], hT6.below HB.out g0⟩
end Go.Proofs.YtddiccdfeckgaaaDoor
/- Layer 4: a bit, and the number of bits; the program's and the document's. -/
namespace Go.Proofs.YtddiccdfeckgaaaDoor
open Go.RowKit
set_option linter.unusedVariables false

def btv (s : ByteArray) (p : Nat) : Nat := (s.data.toList.getD (p / 8) 0).toNat / B.P2 (p % 8) % 2
def bt (s : ByteArray) (p : Nat) : Option Nat := if p < 8 * s.size then some (btv s p) else none
theorem btv_lt (s : ByteArray) (p : Nat) : btv s p < 2 := Nat.mod_lt _ (by omega)
theorem bytes_getElem (s : ByteArray) (k : Nat) (h : k < s.size) (h' : k < s.data.toList.length) : s[k] = s.data.toList[k] := by simp; rfl
theorem btv_at (s : ByteArray) (p : Nat) (h : p / 8 < s.size) : btv s p = s[p / 8].toNat / B.P2 (p % 8) % 2 := by
  unfold btv
  have h' : p / 8 < s.data.toList.length := by simpa using h
  rw [bytes_getElem s (p / 8) h h', List.getD_eq_getElem?_getD, List.getElem?_eq_getElem h']
  rfl
theorem P2_cast (n : Nat) : (2 : Int) ^ n = (B.P2 n : Int) := by unfold B.P2; push_cast; rfl
theorem div_pow (x k : Nat) : (x : Int) / 2 ^ k = ((x / B.P2 k : Nat) : Int) := by rw [P2_cast]; push_cast; rfl
theorem bit_word (c k : Nat) (hc : c < 256) : wrap64 (bits BinOp.and IntKind.u8 ((c : Int) / 2 ^ k) 1) = ((c / B.P2 k % 2 : Nat) : Int) := by
  have h : c / B.P2 k < 256 := Nat.lt_of_le_of_lt (Nat.div_le_self _ _) hc
  rw [div_pow]
  have e := u8_and_nat (c / B.P2 k) 1 h (by omega)
  have e1 : ((1 : Nat) : Int) = 1 := rfl
  rw [e1] at e
  rw [e, Nat.and_one_is_mod, i64_id _ (by omega) (by omega)]
theorem bit_yes (s : ByteArray) (p : Nat) (w : World) (hs : s.size ≤ 1099511627776) (h : p < 8 * s.size) :
    Calls Tryd.prog 82 #[.string s, .int .i64 p] w fun e w' => e = .returned (.tuple #[.int .i64 (btv s p : Int), .bool true]) ∧ w = w' := by
  have hi8 : p / 8 < s.size := by omega
  have HE : Hid (wrap64 (bits BinOp.and IntKind.u8 ((s[p / 8].toNat : Int) / 2 ^ (p % 8)) 1) = (btv s p : Int)) := Lib.hid (by
    rw [btv_at s p hi8]; exact bit_word _ _ (s[p / 8].toNat_lt))
  go_enter Tryd.func82, Tryd.ntmps82
  go_wp2
  rw [HE.out]
  go_ret2
  exact ⟨rfl, rfl⟩
theorem bit_no (s : ByteArray) (at_ : Int) (w : World) (hs : s.size ≤ 1099511627776) (h : at_ < 0 ∨ 8 * (s.size : Int) ≤ at_) :
    Calls Tryd.prog 82 #[.string s, .int .i64 at_] w fun e w' => e = .returned (.tuple #[.int .i64 0, .bool false]) ∧ w = w' := by
  rcases h with h | h
  · go_enter Tryd.func82, Tryd.ntmps82
    go_wp2
    go_ret2
    exact ⟨rfl, rfl⟩
  · have h2 : ¬ at_ < 0 := by omega
    go_enter Tryd.func82, Tryd.ntmps82
    go_wp2
    go_ret2
    exact ⟨rfl, rfl⟩
def RbRel (c m : Nat) (x i : Value) : Prop := ∃ j y : Nat, j ≤ m ∧ i = .int .i64 j ∧ x = .int .i64 (y : Int) ∧ y = c / B.P2 j ∧ y < 256
theorem half_div (x k : Nat) : x / B.P2 k / 2 = x / B.P2 (k + 1) := by rw [Nat.div_div_eq_div_mul, B.P2_succ, Nat.mul_comm]
theorem rbit_yes (s : ByteArray) (p : Nat) (w : World) (hs : s.size ≤ 1099511627776) (h : p < 8 * s.size) :
    Calls Tryd.prog 45 #[.string s, .int .i64 p] w fun e w' => e = .returned (.int .i64 (btv s p : Int)) ∧ w = w' := by
  have hi8 : p / 8 < s.size := by omega
  have hc := s[p / 8].toNat_lt
  have HE := Lib.hid (btv_at s p hi8)
  obtain ⟨c, hcc⟩ : ∃ c : Nat, c = s[p / 8].toNat := ⟨_, rfl⟩
  rw [← hcc] at HE hc
  have HC := Lib.hid hcc
  have HW : Hid (wrap64 (c : Int) = (c : Int)) := Lib.hid (i64_id _ (by omega) (by omega))
  clear hcc
  go_enter Tryd.func45, Tryd.ntmps45
  go_wp2
  rw [← HC.out, HW.out]
  go_loop [5, 6] (fun x i => RbRel c (p % 8) x i) (fun _ i => 8 - (intOf i).toNat)
  case atStart => exact ⟨0, c, by omega, rfl, rfl, by simp [B.P2_zero], by omega⟩
  case round =>
    obtain ⟨j, y, hj, rfl, rfl, hy, hy2⟩ := hrel
    have HY := Lib.hid hy
    clear hy
    by_cases hlt : j < p % 8
    · go_wp2
      go_round
      case rel => exact ⟨j + 1, y / 2, by omega, by go_num, by go_num, by rw [HY.out, half_div], by omega⟩
      case measure => simp [intOf]; omega
    · obtain rfl : j = p % 8 := by omega
      go_wp2
      go_ret
      exact ⟨ret_int (by rw [HE.out, ← HY.out]; omega), rfl⟩
theorem rbit_no (s : ByteArray) (at_ : Int) (w : World) (hs : s.size ≤ 1099511627776) (h : at_ < 0 ∨ 8 * (s.size : Int) ≤ at_) (h1 : at_ ≤ 9223372036854775807) :
    Calls Tryd.prog 45 #[.string s, .int .i64 at_] w fun e w' => e = .returned (.int .i64 (-1)) ∧ w = w' := by
  rcases h with h | h
  · go_enter Tryd.func45, Tryd.ntmps45
    go_wp2
    go_ret
    exact ⟨rfl, rfl⟩
  · have h2 : ¬ at_ < 0 := by omega
    have h3 : (s.size : Int) ≤ at_ / 8 := by omega
    go_enter Tryd.func45, Tryd.ntmps45
    go_wp2
    go_ret
    exact ⟨rfl, rfl⟩
/-- the number of n bits from p on -/
def nb (s : ByteArray) (p : Nat) : Nat → Nat
  | 0 => 0
  | n + 1 => nb s p n + btv s (p + n) * B.P2 n
theorem nb_lt (s : ByteArray) (p n : Nat) : nb s p n < B.P2 n := by
  induction n with
  | zero => rw [B.P2_zero]; exact Nat.zero_lt_one
  | succ n ih =>
    rw [nb, B.P2_succ]
    have h := btv_lt s (p + n)
    have h2 : btv s (p + n) = 0 ∨ btv s (p + n) = 1 := by omega
    rcases h2 with h2 | h2 <;> rw [h2] <;> omega
theorem P2_16 (n : Nat) (h : n ≤ 16) : B.P2 n ≤ 65536 := B.P2_le (b := 16) h
/-- what Bits answers -/
def bitsR (s : ByteArray) (at_ n : Int) : Value :=
  if at_ < 0 ∨ n < 0 ∨ 16 < n then .tuple #[.int .i64 0, .int .i64 0, .int .i64 1]
  else if 8 * (s.size : Int) < at_ + n then .tuple #[.int .i64 0, .int .i64 0, .int .i64 2]
  else .tuple #[.int .i64 (nb s at_.toNat n.toNat : Int), .int .i64 (at_ + n), .int .i64 0]
theorem ofInt_i64 (a : Nat) (ha : a < 9223372036854775808) : (BitVec.ofInt 64 (a : Int)).toNat = a := by
  rw [BitVec.ofInt_natCast, BitVec.toNat_ofNat]; exact Nat.mod_eq_of_lt (by omega)
theorem i64_or_nat (a b : Nat) (ha : a < 9223372036854775808) (hb : b < 9223372036854775808) : bits .or .i64 (a : Int) (b : Int) = ((a ||| b : Nat) : Int) := by
  have hx : a ||| b < 2 ^ 63 := Nat.or_lt_two_pow (by omega) (by omega)
  show IntKind.i64.wrap ((BitVec.ofInt 64 (a : Int) ||| BitVec.ofInt 64 (b : Int)).toNat : Int) = _
  rw [BitVec.toNat_or, ofInt_i64 a ha, ofInt_i64 b hb, IntKind.wrap_i64]
  omega
theorem or_bit (x b n : Nat) (hx : x < B.P2 n) (hb : b < 2) (hn : n ≤ 16) : bits BinOp.or IntKind.i64 (x : Int) (wrap64 ((b : Int) * 2 ^ n)) = ((x + b * B.P2 n : Nat) : Int) := by
  have h16 := P2_16 n hn
  have hb2 : b * B.P2 n ≤ 65536 := by
    have : b = 0 ∨ b = 1 := by omega
    rcases this with h | h <;> rw [h] <;> omega
  have e : (b : Int) * 2 ^ n = ((b * B.P2 n : Nat) : Int) := by rw [P2_cast]; push_cast; rfl
  rw [e, i64_id _ (by omega) (by omega), i64_or_nat _ _ (by omega) (by omega)]
  have := Nat.two_pow_add_eq_or_of_lt (i := n) (b := x) hx b
  congr 1
  unfold B.P2
  rw [Nat.or_comm, Nat.mul_comm b, ← this, Nat.add_comm]
theorem bits_arg (s : ByteArray) (at_ n : Int) (w : World) (h : at_ < 0 ∨ n < 0 ∨ 16 < n) :
    Calls Tryd.prog 64 #[.string s, .int .i64 at_, .int .i64 n] w fun e w' => e = .returned (.tuple #[.int .i64 0, .int .i64 0, .int .i64 1]) ∧ w = w' := by
  by_cases h1 : at_ < 0
  · go_enter Tryd.func64, Tryd.ntmps64
    go_wp2
    go_ret3
    exact ⟨rfl, rfl⟩
  · by_cases h2 : n < 0
    · go_enter Tryd.func64, Tryd.ntmps64
      go_wp2
      go_ret3
      exact ⟨rfl, rfl⟩
    · have h3 : 16 < n := by omega
      go_enter Tryd.func64, Tryd.ntmps64
      go_wp2
      go_ret3
      exact ⟨rfl, rfl⟩
theorem bits_short (s : ByteArray) (at_ n : Int) (w : World) (hs : s.size ≤ 1099511627776) (h0 : 0 ≤ at_) (h01 : at_ ≤ 9223372036854775807) (h1 : 0 ≤ n) (h2 : n ≤ 16) (h : 8 * (s.size : Int) < at_ + n) :
    Calls Tryd.prog 64 #[.string s, .int .i64 at_, .int .i64 n] w fun e w' => e = .returned (.tuple #[.int .i64 0, .int .i64 0, .int .i64 2]) ∧ w = w' := by
  go_enter Tryd.func64, Tryd.ntmps64
  go_wp2
  go_ret3
  exact ⟨rfl, rfl⟩
def NbRel (s : ByteArray) (p n : Nat) (v i : Value) : Prop := ∃ j x : Nat, j ≤ n ∧ i = .int .i64 j ∧ v = .int .i64 (x : Int) ∧ x = nb s p j
set_option maxHeartbeats 1000000 in
theorem bits_ok (s : ByteArray) (p n : Nat) (w : World) (hs : s.size ≤ 1099511627776) (h : p + n ≤ 8 * s.size) (hn : n ≤ 16) :
    Calls Tryd.prog 64 #[.string s, .int .i64 p, .int .i64 n] w fun e w' => e = .returned (.tuple #[.int .i64 (nb s p n : Int), .int .i64 ((p : Int) + n), .int .i64 0]) ∧ w = w' := by
  go_enter Tryd.func64, Tryd.ntmps64
  go_wp2_with fail
  go_loop [9, 31] (fun v i => NbRel s p n v i) (fun _ i => n - (intOf i).toNat)
  case atStart => exact ⟨0, 0, by omega, rfl, rfl, rfl⟩
  case round =>
    obtain ⟨j, x, hj, rfl, rfl, hx⟩ := hrel
    have hx2 := nb_lt s p j
    rw [← hx] at hx2
    have HX := Lib.hid hx
    clear hx
    by_cases hlt : j < n
    · have HB := Lib.hid (bit_yes s (p + j) w hs (by omega))
      have ej : ((p + j : Nat) : Int) = (p : Int) + (j : Int) := by omega
      rw [ej] at HB
      have hb2 := btv_lt s (p + j)
      have HO := Lib.hid (or_bit x (btv s (p + j)) j hx2 hb2 (by omega))
      have HN : Hid (x + btv s (p + j) * B.P2 j = nb s p (j + 1)) := Lib.hid (by rw [HX.out]; rfl)
      generalize btv s (p + j) = y at *
      clear ej hx2
      go_wp2_with (go_at_call 82; refine HB.out.mono ?_; rintro e w' ⟨rfl, rfl⟩)
      rw [HO.out]
      go_round
      case rel => exact ⟨j + 1, _, by omega, by go_num, rfl, HN.out⟩
      case measure => simp [intOf]; omega
    · obtain rfl : j = n := by omega
      clear hx2
      go_wp2
      go_ret3
      exact ⟨by rw [← HX.out]; rfl, rfl⟩
theorem bits_any (s : ByteArray) (at_ n : Int) (w : World) (hs : s.size ≤ 1099511627776) (h1 : at_ ≤ 9223372036854775807) :
    Calls Tryd.prog 64 #[.string s, .int .i64 at_, .int .i64 n] w fun e w' => e = .returned (bitsR s at_ n) ∧ w = w' := by
  unfold bitsR
  by_cases c1 : at_ < 0 ∨ n < 0 ∨ 16 < n
  · rw [if_pos c1]; exact bits_arg s at_ n w c1
  · rw [if_neg c1]
    by_cases c2 : 8 * (s.size : Int) < at_ + n
    · rw [if_pos c2]; exact bits_short s at_ n w hs (by omega) h1 (by omega) (by omega) c2
    · rw [if_neg c2]
      obtain ⟨p, rfl⟩ : ∃ p : Nat, at_ = (p : Int) := ⟨at_.toNat, by omega⟩
      obtain ⟨m, rfl⟩ : ∃ m : Nat, n = (m : Int) := ⟨n.toNat, by omega⟩
      exact bits_ok s p m w hs (by omega) (by omega)
theorem rbits_arg (s : ByteArray) (at_ n : Int) (w : World) (h : at_ < 0 ∨ n < 0 ∨ 16 < n) :
    Calls Tryd.prog 44 #[.string s, .int .i64 at_, .int .i64 n] w fun e w' => e = .returned (.tuple #[.int .i64 0, .int .i64 0, .int .i64 1]) ∧ w = w' := by
  by_cases h1 : at_ < 0
  · go_enter Tryd.func44, Tryd.ntmps44
    go_wp2
    go_ret3
    exact ⟨rfl, rfl⟩
  · by_cases h2 : n < 0
    · go_enter Tryd.func44, Tryd.ntmps44
      go_wp2
      go_ret3
      exact ⟨rfl, rfl⟩
    · have h3 : 16 < n := by omega
      go_enter Tryd.func44, Tryd.ntmps44
      go_wp2
      go_ret3
      exact ⟨rfl, rfl⟩
def RnRel (s : ByteArray) (p n : Nat) (v q i : Value) : Prop := ∃ j x y : Nat, j ≤ n ∧ i = .int .i64 j ∧ v = .int .i64 (x : Int) ∧ q = .int .i64 (y : Int) ∧ x = nb s p j ∧ y = B.P2 j ∧ (0 < j → p + j ≤ 8 * s.size)
theorem add_bit (x b y n : Nat) (hx : x < B.P2 n) (hy : y = B.P2 n) (hb : b < 2) (hn : n ≤ 16) : wrap64 ((x : Int) + wrap64 ((y : Int) * (b : Int))) = ((x + b * B.P2 n : Nat) : Int) := by
  have h16 := P2_16 n hn
  have e : (y : Int) * (b : Int) = ((b * B.P2 n : Nat) : Int) := by rw [hy]; push_cast; exact Int.mul_comm _ _
  have hb2 : b * B.P2 n ≤ 65536 := by
    have : b = 0 ∨ b = 1 := by omega
    rcases this with h | h <;> rw [h] <;> omega
  rw [e, i64_id ((b * B.P2 n : Nat) : Int) (by omega) (by omega), i64_id _ (by omega) (by omega)]
  omega
set_option maxHeartbeats 1000000 in
theorem rbits_some (s : ByteArray) (p n : Nat) (w : World) (hs : s.size ≤ 1099511627776) (hp : p ≤ 9223372036854775807) (hn : n ≤ 16) :
    Calls Tryd.prog 44 #[.string s, .int .i64 p, .int .i64 n] w fun e w' => e = .returned (bitsR s p n) ∧ w = w' := by
  have hr1 : ¬ ((p : Int) < 0 ∨ (n : Int) < 0 ∨ 16 < (n : Int)) := by omega
  have HR : Hid (bitsR s p n = if 8 * (s.size : Int) < (p : Int) + n then .tuple #[.int .i64 0, .int .i64 0, .int .i64 2] else .tuple #[.int .i64 (nb s p n : Int), .int .i64 ((p : Int) + n), .int .i64 0]) := Lib.hid (by
    unfold bitsR; rw [if_neg hr1]; rfl)
  clear hr1
  go_enter Tryd.func44, Tryd.ntmps44
  go_wp2_with fail
  go_loop [9, 10, 11] (fun v q i => RnRel s p n v q i) (fun _ _ i => n - (intOf i).toNat)
  case atStart => exact ⟨0, 0, 1, by omega, rfl, rfl, rfl, rfl, rfl, fun h => by omega⟩
  case round =>
    obtain ⟨j, x, y, hj, rfl, rfl, rfl, hx, hy, hin0⟩ := hrel
    have hx2 := nb_lt s p j
    rw [← hx] at hx2
    have hy2 := P2_16 j (by omega)
    rw [← hy] at hy2
    have HX := Lib.hid hx
    have HY := Lib.hid hy
    clear hx hy
    by_cases hlt : j < n
    · by_cases hin : p + j < 8 * s.size
      · have HB := Lib.hid (rbit_yes s (p + j) w hs hin)
        have ej : ((p + j : Nat) : Int) = (p : Int) + (j : Int) := by omega
        rw [ej] at HB
        have hb2 := btv_lt s (p + j)
        have HO := Lib.hid (add_bit x (btv s (p + j)) y j hx2 HY.out hb2 (by omega))
        have HN : Hid (x + btv s (p + j) * B.P2 j = nb s p (j + 1)) := Lib.hid (by rw [HX.out]; rfl)
        have HP : Hid (y * 2 = B.P2 (j + 1)) := Lib.hid (by rw [HY.out, B.P2_succ, Nat.mul_comm])
        generalize btv s (p + j) = u at *
        clear ej hx2 hin0
        go_wp2_with (go_at_call 45; refine HB.out.mono ?_; rintro e w' ⟨rfl, rfl⟩)
        rw [HO.out]
        go_round
        case rel => exact ⟨j + 1, _, y * 2, by omega, by go_num, rfl, by go_num, HN.out, HP.out, fun _ => by omega⟩
        case measure => simp [intOf]; omega
      · have h2 : 8 * (s.size : Int) < (p : Int) + n := by omega
        have HE : Hid (bitsR s p n = .tuple #[.int .i64 0, .int .i64 0, .int .i64 2]) := Lib.hid (by rw [HR.out, if_pos h2])
        clear hx2
        by_cases j0 : j = 0
        · subst j0
          have HB := Lib.hid (rbit_no s p w hs (Or.inr (by omega)) (by omega))
          go_wp2_with (go_at_call 45; refine HB.out.mono ?_; rintro e w' ⟨rfl, rfl⟩)
          go_ret3
          exact ⟨by rw [HE.out]; rfl, rfl⟩
        · have h8 := hin0 (by omega)
          have HB := Lib.hid (rbit_no s ((p : Int) + (j : Int)) w hs (Or.inr (by omega)) (by omega))
          clear hin0
          go_wp2_with (go_at_call 45; refine HB.out.mono ?_; rintro e w' ⟨rfl, rfl⟩)
          go_ret3
          exact ⟨by rw [HE.out]; rfl, rfl⟩
    · obtain rfl : j = n := by omega
      clear hx2
      by_cases j0 : j = 0
      · subst j0
        clear hin0 HY
        have hx0 := HX.out
        subst hx0
        by_cases h2 : 8 * (s.size : Int) < (p : Int)
        · have HE : Hid (bitsR s p (0 : Nat) = .tuple #[.int .i64 0, .int .i64 0, .int .i64 2]) := Lib.hid (by rw [HR.out, if_pos (by omega)])
          clear HR HX
          go_wp2
          go_ret3
          exact ⟨congrArg Ending.returned HE.out.symm, rfl⟩
        · have HE : Hid (bitsR s p (0 : Nat) = .tuple #[.int .i64 (nb s p 0 : Int), .int .i64 (p : Int), .int .i64 0]) := Lib.hid (by rw [HR.out, if_neg (by omega)]; simp)
          clear HR HX
          go_wp2
          go_ret3
          exact ⟨congrArg Ending.returned HE.out.symm, rfl⟩
      · have q0 : ((j : Int) == 0) = false := by rw [beq_eq_false_iff_ne]; omega
        have h8 := hin0 (by omega)
        have HE : Hid (bitsR s p j = .tuple #[.int .i64 (x : Int), .int .i64 ((p : Int) + j), .int .i64 0]) := Lib.hid (by rw [HR.out, if_neg (by omega), ← HX.out])
        clear HR hin0 j0
        go_wp2
        go_ret3
        exact ⟨by rw [HE.out]; rfl, rfl⟩
theorem rbits_any (s : ByteArray) (at_ n : Int) (w : World) (hs : s.size ≤ 1099511627776) (h1 : at_ ≤ 9223372036854775807) :
    Calls Tryd.prog 44 #[.string s, .int .i64 at_, .int .i64 n] w fun e w' => e = .returned (bitsR s at_ n) ∧ w = w' := by
  by_cases c1 : at_ < 0 ∨ n < 0 ∨ 16 < n
  · unfold bitsR
    rw [if_pos c1]; exact rbits_arg s at_ n w c1
  · obtain ⟨p, rfl⟩ : ∃ p : Nat, at_ = (p : Int) := ⟨at_.toNat, by omega⟩
    obtain ⟨m, rfl⟩ : ∃ m : Nat, n = (m : Int) := ⟨n.toNat, by omega⟩
    exact rbits_some s p m w hs (by omega) (by omega)
end Go.Proofs.YtddiccdfeckgaaaDoor
/- Layer 4: the symbol whose code stands at a bit. -/
namespace Go.Proofs.YtddiccdfeckgaaaDoor
open Go.RowKit
set_option linter.unusedVariables false

def nxV (at_ : Nat) (r : Nat × Nat × Nat) : Value := .tuple #[.int .i64 (r.1 : Int), .int .i64 (if r.2.2 = 0 then (at_ : Int) + (r.2.1 : Int) else 0), .int .i64 (r.2.2 : Int)]
/-- what Next answers -/
def nxR (zs : List Int) (s : ByteArray) (at_ : Int) : Value := if at_ < 0 then .tuple #[.int .i64 0, .int .i64 0, .int .i64 1] else nxV at_.toNat (Hf.nx zs fun m => bt s (at_.toNat + m))
theorem nxV_4 (p : Nat) : nxV p (0, 0, 4) = .tuple #[.int .i64 0, .int .i64 0, .int .i64 4] := rfl
theorem nxV_2 (p : Nat) : nxV p (0, 0, 2) = .tuple #[.int .i64 0, .int .i64 0, .int .i64 2] := rfl
theorem nxV_0 (p s n : Nat) : nxV p (s, n, 0) = .tuple #[.int .i64 (s : Int), .int .i64 ((p : Int) + n), .int .i64 0] := rfl
theorem next_arg (v : Array Value) (s : ByteArray) (at_ : Int) (w : World) (h : at_ < 0) :
    Calls Tryd.prog 83 #[.agg v, .string s, .int .i64 at_] w fun e w' => e = .returned (.tuple #[.int .i64 0, .int .i64 0, .int .i64 1]) ∧ Below w.heap.size w w' := by
  go_enter Tryd.func83, Tryd.ntmps83
  go_wp2_with (refine wl_box 43 _ _ rfl rfl rfl ?_; intro W1 b1 B1 l1 k1)
  go_ret3
  exact ⟨rfl, k1⟩
def NxRel (zs : List Int) (s : ByteArray) (p : Nat) (R : Nat × Nat × Nat) (a c f t i : Value) : Prop :=
  ∃ k x y z : Nat, k ≤ 15 ∧ i = .int .i64 k ∧ a = .int .i64 ((p : Int) + k) ∧ c = .int .i64 (x : Int) ∧ f = .int .i64 (y : Int) ∧ t = .int .i64 (z : Int) ∧
    x < B.P2 k ∧ y = Hf.fs zs k + Hf.cn zs k ∧ z = Hf.st zs (k + 1) ∧ y ≤ x ∧ Hf.dec zs (fun m => bt s (p + m)) (15 - k) k x = R ∧ (0 < k → p + k ≤ 8 * s.size)
theorem bt_some (s : ByteArray) (p : Nat) (h : p < 8 * s.size) : bt s p = some (btv s p) := by unfold bt; rw [if_pos h]
theorem bt_none (s : ByteArray) (p : Nat) (h : ¬ p < 8 * s.size) : bt s p = none := by unfold bt; rw [if_neg h]
theorem P2_15 (n : Nat) (h : n ≤ 15) : B.P2 n ≤ 32768 := B.P2_le (b := 15) h
set_option maxHeartbeats 4000000 in
theorem next_some (zs : List Int) (s : ByteArray) (p b : Nat) (w : World) (hs : s.size ≤ 1099511627776) (hp : p ≤ 9223372036854775807) (hl : zs.length ≤ 320)
    (hb : Blk w b (intA (Hf.sy zs zs.length) (Hf.st zs 16)) 3) :
    Calls Tryd.prog 83 #[.agg (tabA (Hf.cn zs) (some ⟨b, 0, none⟩) (Hf.st zs 16)), .string s, .int .i64 p] w fun e w' => e = .returned (nxV p (Hf.nx zs fun m => bt s (p + m))) ∧ Below w.heap.size w w' := by
  obtain ⟨R, hR⟩ : ∃ R, Hf.nx zs (fun m => bt s (p + m)) = R := ⟨_, rfl⟩
  rw [hR]
  have HR := Lib.hid hR
  clear hR
  have hN := Hf.st_len zs 16
  obtain ⟨N, hNe⟩ : ∃ N, N = Hf.st zs 16 := ⟨_, rfl⟩
  rw [← hNe] at hb hN ⊢
  have HN := Lib.hid hNe
  clear hNe
  go_enter Tryd.func83, Tryd.ntmps83
  go_wp2_with (refine wl_box 43 _ _ rfl rfl rfl ?_; intro W1 b1 B1 l1 k1)
  have HE := Lib.hid k1
  have C0 := hb.keep k1
  have hsl := (B1.cell 16).trans (tabA_sl _ _ _)
  clear l1 k1 hb
  go_loop [2, 9, 10, 11, 21] (fun a c f t i => NxRel zs s p R a c f t i) (fun _ _ _ _ i => 15 - (intOf i).toNat)
  case atStart => exact ⟨0, 0, 0, 0, by omega, rfl, by simp, rfl, rfl, rfl, by rw [B.P2_zero]; omega, rfl, rfl, by omega, HR.out, fun h => by omega⟩
  case round =>
    obtain ⟨k, x, y, z, hk, rfl, rfl, rfl, rfl, rfl, hx, hy, hz, hyx, hdec, hin⟩ := hrel
    clear HR
    have hx2 := P2_15 k hk
    have hzl := Hf.st_len zs (k + 1)
    rw [← hz] at hzl
    have HX := Lib.hid hx
    have HY := Lib.hid hy
    have HZ := Lib.hid hz
    have HD := Lib.hid hdec
    have hxb : x < 32768 := by omega
    clear hx hy hz hdec hx2
    by_cases hlt : k < 15
    · have hcell := (B1.cell (1 + k)).trans (tabA_at _ _ _ (1 + k) (by omega))
      have HCN : Hid (Hf.cn zs (1 + k) = Hf.cn zs (k + 1)) := Lib.hid (by rw [Nat.add_comm])
      have hcl := Hf.cn_len zs (1 + k)
      obtain ⟨q, hq⟩ : ∃ q, q = Hf.cn zs (1 + k) := ⟨_, rfl⟩
      rw [← hq] at hcell hcl
      rw [← hq] at HCN
      clear hq
      by_cases c1 : z = N
      · have HE4 : Hid (R = (0, 0, 4)) := Lib.hid (by rw [← HD.out]; exact Hf.dec_none zs _ _ k x (by rw [← HZ.out, ← HN.out]; omega))
        subst c1
        go_wp2
        go_ret3
        exact ⟨by rw [HE4.out, nxV_4]; rfl, HE.out⟩
      · have t1 : ((z : Int) == (N : Int)) = false := by rw [beq_eq_false_iff_ne]; omega
        have hzN : z < N := by
          have := Hf.st_mono zs (a := k + 1) (b := 16) (by omega)
          rw [← HZ.out, ← HN.out] at this
          omega
        have HG : Hid (¬ Hf.st zs 16 ≤ Hf.st zs (k + 1)) := Lib.hid (by rw [← HZ.out, ← HN.out]; omega)
        clear c1
        by_cases c2 : p + k < 8 * s.size
        · have HB := Lib.hid (bit_yes s (p + k) W1 hs c2)
          have ej : ((p + k : Nat) : Int) = (p : Int) + (k : Int) := by omega
          rw [ej] at HB
          have hb2 := btv_lt s (p + k)
          have HS := Lib.hid (Hf.dec_step zs (fun m => bt s (p + m)) k x (btv s (p + k)) hlt HG.out (bt_some s (p + k) c2))
          rw [HD.out] at HS
          generalize btv s (p + k) = u at *
          clear ej hin
          go_upto_region 13 with (go_at_call 82; refine HB.out.mono ?_; rintro e w' ⟨rfl, rfl⟩)
          have e1 : 2 * (x : Int) + (u : Int) = ((2 * x + u : Nat) : Int) := by omega
          have e2 : 2 * (y : Int) = ((2 * y : Nat) : Int) := by omega
          rw [e1, e2]
          have HP : Hid (2 * x + u < B.P2 (k + 1)) := Lib.hid (by have := HX.out; rw [B.P2_succ]; omega)
          have HF : Hid (2 * y = Hf.fs zs (k + 1)) := Lib.hid (by rw [HY.out, Hf.fs_succ])
          have hfx : 2 * y ≤ 2 * x + u := by omega
          have hxb2 : 2 * x + u < 65537 := by omega
          generalize 2 * x + u = c at *
          generalize 2 * y = f at *
          clear e1 e2 HB HD HX HY hxb hyx hb2
          by_cases c3 : c < f + q
          · have hhit := Hf.decF_hit zs (fun m => bt s (p + m)) (k + 1) c (by rw [← HF.out, ← HCN.out]; exact c3)
            rw [← HS.out, ← HF.out] at hhit
            have hidx : (z : Int) + (c : Int) - (f : Int) = ((z + (c - f) : Nat) : Int) := by omega
            have hrange : z + (c - f) < N := by
              have := Hf.st_cn_le zs (k + 1) 16 (by omega)
              rw [← HZ.out, ← HN.out, ← HCN.out] at this
              omega
            have hsc := (C0.cell (z + (c - f))).trans (intA_at _ _ _ hrange)
            have hsy : Hf.sy zs zs.length (z + (c - f)) = Hf.sym zs (k + 1) (c - f) := by
              rw [HZ.out]; exact Hf.sy_sym zs (k + 1) (c - f) (by rw [← HCN.out]; omega)
            rw [hsy] at hsc
            have HH := Lib.hid hhit
            clear hhit hsy
            generalize Hf.sym zs (k + 1) (c - f) = sm at *
            generalize z + (c - f) = idx at *
            go_wp2
            go_ret3
            refine ⟨?_, HE.out⟩
            rw [HH.out, nxV_0]
            have e5 : (p : Int) + (k : Int) + 1 = (p : Int) + ((k + 1 : Nat) : Int) := by omega
            rw [← e5]
            rfl
          · have hmiss := Hf.decF_miss zs (fun m => bt s (p + m)) (k + 1) c (by rw [← HF.out, ← HCN.out]; exact c3)
            rw [← HS.out] at hmiss
            have HM := Lib.hid hmiss
            clear hmiss
            go_wp2
            go_round
            case rel => exact ⟨k + 1, c, f + q, z + q, by omega, by go_num, by go_num, rfl, by go_num, by go_num, HP.out, by rw [HF.out, HCN.out], by rw [HZ.out, HCN.out]; rfl, by omega, HM.out.symm, fun _ => by omega⟩
            case measure => simp [intOf]; omega
        · have HE2 : Hid (R = (0, 0, 2)) := Lib.hid (by rw [← HD.out]; exact Hf.dec_short zs _ k x hlt HG.out (bt_none s (p + k) c2))
          by_cases k0 : k = 0
          · subst k0
            have HB := Lib.hid (bit_no s p W1 hs (Or.inr (by omega)))
            clear hin
            go_wp2_with (go_at_call 82; refine HB.out.mono ?_; rintro e w' ⟨rfl, rfl⟩)
            go_ret3
            exact ⟨by rw [HE2.out, nxV_2]; rfl, HE.out⟩
          · have h8 := hin (by omega)
            have HB := Lib.hid (bit_no s ((p : Int) + (k : Int)) W1 hs (Or.inr (by omega)))
            clear hin
            go_wp2_with (go_at_call 82; refine HB.out.mono ?_; rintro e w' ⟨rfl, rfl⟩)
            go_ret3
            exact ⟨by rw [HE2.out, nxV_2]; rfl, HE.out⟩
    · obtain rfl : k = 15 := by omega
      have HE4 : Hid (R = (0, 0, 4)) := Lib.hid (by rw [← HD.out]; exact Hf.dec_end zs _ _ _)
      clear hin
      go_wp2
      go_ret3
      exact ⟨by rw [HE4.out, nxV_4]; rfl, HE.out⟩
theorem next_any (zs : List Int) (s : ByteArray) (at_ : Int) (b : Nat) (w : World) (hs : s.size ≤ 1099511627776) (hp : at_ ≤ 9223372036854775807) (hl : zs.length ≤ 320)
    (hb : Blk w b (intA (Hf.sy zs zs.length) (Hf.st zs 16)) 3) :
    Calls Tryd.prog 83 #[.agg (tabA (Hf.cn zs) (some ⟨b, 0, none⟩) (Hf.st zs 16)), .string s, .int .i64 at_] w fun e w' => e = .returned (nxR zs s at_) ∧ Below w.heap.size w w' := by
  unfold nxR
  by_cases c : at_ < 0
  · rw [if_pos c]; exact next_arg _ s at_ w c
  · rw [if_neg c]
    obtain ⟨p, rfl⟩ : ∃ p : Nat, at_ = (p : Int) := ⟨at_.toNat, by omega⟩
    exact next_some zs s p b w hs (by omega) hl hb
end Go.Proofs.YtddiccdfeckgaaaDoor
