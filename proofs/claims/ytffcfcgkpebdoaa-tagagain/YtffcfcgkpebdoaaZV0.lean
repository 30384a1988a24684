import Derived.Below
import Derived.ChangeSame
import Derived.OpenShut
import Derived.Carry
import Derived.Deep.Draws
import Derived.WalkKit
import Derived.Test.YtffcfcgkpebdoaaProg
import Derived.WalkSpells
import Derived.WalkLawsBesides
import Derived.Laws.BitsAllLaws
import Derived.Lib.Hide
import Derived.Deep.QuietTactic
import Derived.BigQuiet
import Derived.Outline
import Derived.StillTailTactics
import Derived.Deep.RegionHeld3
import Derived.Deep.DrawnRows
import Derived.Laws.IdiomStrings
import Derived.Laws.MakeOwn
import Derived.OwnWalk
import Derived.Deep.OwnRows
import Derived.Laws.AppendOwn
import Derived.KernelRfl
import Derived.Deep.DeepCutAuto
import Derived.Deep.CutBlock
import Derived.Lib.BitFns
import Derived.Laws.Rows
import Derived.Laws.Tables
import Derived.Laws.ResultCell
import Derived.Deep.WholeRow
import Derived.Great.BuildSlice
import Derived.Deep.MidRow
import Derived.Deep.Slices
import Derived.Maps.AppendAt
import Derived.Lib.SmallJoins
namespace Go.Proofs.Ytffcfcgkpebdoaa
open Go.RowKit Go.WideShapes Go.ChangeShapes
theorem bd64 {a : Int} (h : (Lit.int .i64 a).wf = true) : -9223372036854775808 ≤ a ∧ a ≤ 9223372036854775807 := bounds_i64 h
end Go.Proofs.Ytffcfcgkpebdoaa
namespace Go.Proofs.Ytffcfcgkpebdoaa
open Go.RowKit Go.WideShapes Go.ChangeShapes
theorem trodAll_below {H : Type} {enc : TypeId × Value → H} {P : Program} (hl : laidOutB P = true) {W W' : World} (hb : Below W.heap.size W W') :
    ∀ (ts : List TypeId) (vs : List Value) (ds : List (DataW H)) (ps : List MemPlace), (∀ t ∈ ts, P.readableRec t = true ∧ t < P.types.size) → (∀ x ∈ ps, x.block < W.heap.size) →
      DataW.TrodAll enc P W 0 (fun _ => true) true ts vs ds ps → DataW.TrodAll enc P W' 0 (fun b => decide (b < W.heap.size)) true ts vs ds ps
  | [], vs, ds, ps, _, _, h => by
    obtain ⟨rfl, rfl, rfl⟩ := trodAll_nil h
    exact trodAll_mk0
  | t :: ts, vs, ds, ps, hr, hlt, h => by
    obtain ⟨v, vs', d, ds', p, q, rfl, rfl, rfl, h0, h1⟩ := trodAll_cons h
    exact trodAll_cons_mk (Below.trod hl (hr t (by simp)).1 (hr t (by simp)).2 h0 hb (fun x hx => hlt x (by simp [hx]))) (trodAll_below hl hb ts vs' ds' q (fun u hu => hr u (by simp [hu])) (fun x hx => hlt x (by simp [hx])) h1)
theorem post_law {H : Type} {enc : TypeId × Value → H} {P : Program} {f : Func} {s : ChangeSpec} {apart fresh handsOn : Bool} {W W' : World} {args : Array Value} {v : Value} {ds gs : List (DataW H)} {before p : List MemPlace}
    (hl : laidOutB P = true) (hr : ∀ t ∈ f.params.toList, P.readableRec t = true ∧ t < P.types.size)
    (hW : DataW.Whole enc P f.params.toList s.vars apart W args.toList ds gs before) (hA : DataW.TrodAll enc P W 0 (fun _ => true) true f.params.toList args.toList ds p) (hp : before = p)
    (hres : ∀ (b : Nat) (sp : Nat → Bool) (hd : Bool), DataW.TrodAll enc P W' b sp hd f.resultTypes.toList (v.resultList f.resultTypes.size) (s.fn H (ds ++ gs)).results [])
    (hargs : (s.fn H (ds ++ gs)).args = ds) (hvars : ∀ sp : Nat → Bool, DataW.TrodVars enc P W' sp s.vars (s.fn H (ds ++ gs)).vars [])
    (hb : Below W.heap.size W W') : s.post enc P f apart fresh handsOn false W args v W' := by
  subst hp
  refine ⟨ds, gs, before, [], before, [], hW, hres _ _ _, ?_, hvars _, World.keptBut_mono (fun q hq => ⟨hq, Or.inr (Or.inl hq)⟩) (hb.frame (· ∈ before)), fun h => by cases h⟩
  rw [hargs]
  exact trodAll_below hl hb _ _ _ _ hr (fun x hx => hW.lt x hx) hA
end Go.Proofs.Ytffcfcgkpebdoaa
namespace Go.Proofs.Ytffcfcgkpebdoaa
open Go.RowKit
theorem bq_trans {a b c : World} (h : Below a.heap.size a b) (k : Below b.heap.size b c) : Below a.heap.size a c := h.trans (k.mono h.size)
theorem bq_alloc {a b : World} (h : Below a.heap.size a b) (o : Obj) : Below a.heap.size a (b.alloc o) := h.alloc h.size o
theorem bq_drew {a b : World} (h : Below a.heap.size a b) : Below a.heap.size a b.drew := h.drew
theorem bq_drewN {a b : World} (h : Below a.heap.size a b) (n : Nat) : Below a.heap.size a (b.drewN n) := ⟨h.os, h.tape, h.output, h.size, h.block⟩
theorem bq_set {a b : World} (h : Below a.heap.size a b) (p : Addr) (hp : a.heap.size ≤ p.block) (v : Value) : Below a.heap.size a (b.setCell p v) := h.setCell hp v
theorem bq_refl (a : World) : Below a.heap.size a a := Below.refl _ _
end Go.Proofs.Ytffcfcgkpebdoaa
namespace Go.Proofs.Ytffcfcgkpebdoaa.B
def P2 (n : Nat) : Nat := 2 ^ n
theorem P2_zero : P2 0 = 1 := rfl
theorem P2_pos (n : Nat) : 0 < P2 n := Nat.two_pow_pos n
theorem P2_add (a b : Nat) : P2 (a + b) = P2 a * P2 b := Nat.pow_add 2 a b
theorem P2_le {a b : Nat} (h : a ≤ b) : P2 a ≤ P2 b := Nat.pow_le_pow_right (by omega) h
theorem P2_8 : P2 8 = 256 := rfl
theorem P2_byte (k : Nat) : P2 (8 * (k + 1)) = 256 * P2 (8 * k) := by rw [show 8 * (k + 1) = 8 + 8 * k by omega, P2_add, P2_8]
theorem div_lt {x a b : Nat} (h : x < P2 (a + b)) : x / P2 a < P2 b := by
  rw [Nat.div_lt_iff_lt_mul (P2_pos a), Nat.mul_comm, ← P2_add]; exact h
def bv (l : List UInt8) : Nat := l.foldl (fun a b => 256 * a + b.toNat) 0
theorem bv_nil : bv [] = 0 := rfl
theorem bv_snoc (l : List UInt8) (b : UInt8) : bv (l ++ [b]) = 256 * bv l + b.toNat := by simp [bv]
theorem snoc_induct {p : List UInt8 → Prop} (h0 : p []) (h1 : ∀ l b, p l → p (l ++ [b])) (l : List UInt8) : p l := by
  have H : ∀ n (l : List UInt8), l.length = n → p l := by
    intro n
    induction n with
    | zero => intro l h; rw [List.length_eq_zero_iff.1 h]; exact h0
    | succ n ih =>
      intro l h
      have hne : l ≠ [] := by intro e; rw [e] at h; simp at h
      rw [← List.dropLast_concat_getLast hne]
      exact h1 _ _ (ih _ (by simp [h]))
  exact H _ l rfl
theorem bv_lt (l : List UInt8) : bv l < P2 (8 * l.length) := by
  induction l using snoc_induct with
  | h0 => simp [bv_nil, P2_zero]
  | h1 l c ih =>
    rw [bv_snoc, List.length_append, List.length_singleton, P2_byte]
    have := c.toNat_lt
    omega
def enc : Nat → Nat → List UInt8
  | 0, _ => []
  | m + 1, x => enc m (x / 256) ++ [UInt8.ofNat (x % 256)]
theorem enc_len (m x : Nat) : (enc m x).length = m := by
  induction m generalizing x with
  | zero => rfl
  | succ m ih => simp [enc, ih]
theorem ofNat_toNat (x : Nat) (h : x < 256) : (UInt8.ofNat x).toNat = x := by simp; omega
theorem bv_enc (m x : Nat) (h : x < P2 (8 * m)) : bv (enc m x) = x := by
  induction m generalizing x with
  | zero => rw [Nat.mul_zero, P2_zero] at h; simp [enc, bv_nil]; omega
  | succ m ih =>
    rw [P2_byte] at h
    rw [enc, bv_snoc, ih _ (by omega), ofNat_toNat _ (Nat.mod_lt _ (by omega))]
    omega
def fld (l : List UInt8) (p n : Nat) : Nat := bv l / P2 (8 * l.length - (p + n)) % P2 n
def lv : List UInt8 → Nat
  | [] => 0
  | b :: l => b.toNat + 256 * lv l
theorem lv_snoc (l : List UInt8) (b : UInt8) : lv (l ++ [b]) = lv l + b.toNat * P2 (8 * l.length) := by
  induction l with
  | nil => simp [lv, P2_zero]
  | cons c l ih =>
    rw [List.cons_append, lv, ih, lv, List.length_cons, P2_byte, Nat.mul_add, Nat.mul_left_comm]
    omega
theorem lv_lt (l : List UInt8) : lv l < P2 (8 * l.length) := by
  induction l with
  | nil => simp [lv, P2_zero]
  | cons c l ih =>
    rw [lv, List.length_cons, P2_byte]
    have := c.toNat_lt
    omega
theorem lv_take_succ (l : List UInt8) (k : Nat) (h : k < l.length) : lv (l.take (k + 1)) = lv (l.take k) + l[k].toNat * P2 (8 * k) := by
  rw [List.take_succ_eq_append_getElem h, lv_snoc, List.length_take, Nat.min_eq_left (by omega)]
theorem lv_take_lt (l : List UInt8) (k : Nat) : lv (l.take k) < P2 (8 * k) := by
  refine Nat.lt_of_lt_of_le (lv_lt _) (P2_le ?_)
  rw [List.length_take]; omega
theorem lv_take_all (l : List UInt8) (k : Nat) (h : l.length ≤ k) : lv (l.take k) = lv l := by rw [List.take_of_length_le h]
end Go.Proofs.Ytffcfcgkpebdoaa.B
namespace Go.Proofs.Ytffcfcgkpebdoaa
open Go.RowKit
set_option linter.unusedVariables false
theorem ret_bool {a b : Bool} (h : a = b) : Ending.returned (.bool a) = .returned (.bool b) := by rw [h]
theorem i64_id (x : Int) (h0 : -9223372036854775808 ≤ x) (h1 : x ≤ 9223372036854775807) : wrap64 x = x := by unfold wrap64; omega
theorem i64_wrap (x : Int) (h0 : -9223372036854775808 ≤ x) (h1 : x ≤ 9223372036854775807) : IntKind.i64.wrap x = x := by rw [IntKind.wrap_i64]; omega
theorem ofInt_i64 (a : Nat) (ha : a < 9223372036854775808) : (BitVec.ofInt 64 (a : Int)).toNat = a := by
  rw [BitVec.ofInt_natCast, BitVec.toNat_ofNat]; exact Nat.mod_eq_of_lt (by omega)
theorem i64_or_nat (a b : Nat) (ha : a < 9223372036854775808) (hb : b < 9223372036854775808) : bits .or .i64 (a : Int) (b : Int) = ((a ||| b : Nat) : Int) := by
  have hx : a ||| b < 2 ^ 63 := Nat.or_lt_two_pow (by omega) (by omega)
  show IntKind.i64.wrap ((BitVec.ofInt 64 (a : Int) ||| BitVec.ofInt 64 (b : Int)).toNat : Int) = _
  rw [BitVec.toNat_or, ofInt_i64 a ha, ofInt_i64 b hb, IntKind.wrap_i64]
  omega
theorem i64_and_nat (a b : Nat) (ha : a < 9223372036854775808) (hb : b < 9223372036854775808) : bits .and .i64 (a : Int) (b : Int) = ((a &&& b : Nat) : Int) := by
  have hx : a &&& b < 2 ^ 63 := Nat.and_lt_two_pow _ (by omega)
  show IntKind.i64.wrap ((BitVec.ofInt 64 (a : Int) &&& BitVec.ofInt 64 (b : Int)).toNat : Int) = _
  rw [BitVec.toNat_and, ofInt_i64 a ha, ofInt_i64 b hb, IntKind.wrap_i64]
  omega
theorem P2_cast (n : Nat) : (2 : Int) ^ n = (B.P2 n : Int) := by unfold B.P2; push_cast; rfl
theorem div_pow (x k : Nat) : (x : Int) / 2 ^ k = ((x / B.P2 k : Nat) : Int) := by rw [P2_cast]; push_cast; rfl
theorem islittle_any (n : Int) (w : World) :
    Calls Try.prog 30 #[.int .i64 n] w fun e w' => e = .returned (.bool (decide (1 ≤ n) && decide (n ≤ 4))) ∧ w = w' := by
  go_enter Try.func30, Try.ntmps30
  go_wp2
  all_goals (go_ret; exact ⟨ret_bool (by simp; try omega), rfl⟩)
theorem isright_any (s : ByteArray) (a : Int) (w : World) (hs : s.size ≤ 1099511627776) :
    Calls Try.prog 31 #[.agg #[.string s, .int .i64 a]] w fun e w' => e = .returned (.bool (decide (0 ≤ a) && decide (a ≤ 8 * s.size))) ∧ Below w.heap.size w w' := by
  go_enter Try.func31, Try.ntmps31
  go_wp2
  all_goals (go_ret; exact ⟨ret_bool (by simp; try omega), bq_alloc (Below.refl _ _) _⟩)
theorem putbytes_any (s t : ByteArray) (a : Int) (w : World) (hs : s.size ≤ 1099511627776) (ht : t.size ≤ 1099511627776) :
    Calls Try.prog 18 #[.agg #[.string s, .int .i64 a], .string t] w fun e w' => e = .returned (.agg #[.string (s ++ t), .int .i64 0]) ∧ Below w.heap.size w w' := by
  go_enter Try.func18, Try.ntmps18
  go_wp2
  exact bodyPost_ret (v := .agg #[.string (s ++ t), .int .i64 0]) (by simp [results, Try.results18, go_sem]) rfl ⟨rfl, bq_alloc (bq_alloc (Below.refl _ _) _) _⟩
theorem bytes_getElem (s : ByteArray) (k : Nat) (h : k < s.size) (h' : k < s.data.toList.length) : s[k] = s.data.toList[k] := by simp; rfl
theorem bytes_length (s : ByteArray) : s.data.toList.length = s.size := by simp
def NumRel (s : ByteArray) (a b : Nat) (p i : Value) : Prop := ∃ k x : Nat, a / 8 ≤ k ∧ (k ≤ (b + 7) / 8) ∧ i = .int .i64 k ∧ p = .int .i64 (x : Int) ∧ x = B.bv ((s.data.toList.take k).drop (a / 8))
end Go.Proofs.Ytffcfcgkpebdoaa
namespace Go.Proofs.Ytffcfcgkpebdoaa
open Go.RowKit
def Box (w : World) (b : Nat) (x y : Value) : Prop :=
  w.cell? ⟨b, 0, none⟩ = some x ∧ w.cell? ⟨b, 1, none⟩ = some y ∧ w.frozen? ⟨b, 0, none⟩ = false ∧ w.frozen? ⟨b, 1, none⟩ = false ∧ b < w.heap.size
section
variable {w w' : World} {b : Nat} {x y : Value}
theorem Box.below {B : Nat} (h : Box w b x y) (hb : Below B w w') (hB : b < B) : Box w' b x y :=
  ⟨(hb.cell (p := ⟨b, 0, none⟩) hB).trans h.1, (hb.cell (p := ⟨b, 1, none⟩) hB).trans h.2.1, (hb.frozen (p := ⟨b, 0, none⟩) hB).trans h.2.2.1, (hb.frozen (p := ⟨b, 1, none⟩) hB).trans h.2.2.2.1, Nat.lt_of_lt_of_le h.2.2.2.2 hb.size⟩
theorem Box.keep (h : Box w b x y) (hb : Below w.heap.size w w') : Box w' b x y := h.below hb h.2.2.2.2
theorem Box.alloc (h : Box w b x y) (o : Obj) : Box (w.alloc o) b x y := h.keep (bq_alloc (bq_refl _) o)
theorem Box.drewN (h : Box w b x y) (n : Nat) : Box (w.drewN n) b x y := h
theorem box_new (w : World) (x y : Value) (t : TypeId) : Box (w.alloc (.cells #[x, y] t)) w.heap.size x y := by
  refine ⟨?_, ?_, World.frozen?_alloc_new .., World.frozen?_alloc_new .., by simp⟩
  · rw [World.cell?_alloc_new]; rfl
  · rw [World.cell?_alloc_new]; rfl
theorem Box.set0 (h : Box w b x y) (v : Value) : Box (w.setCell ⟨b, 0, none⟩ v) b v y := by
  refine ⟨World.cell?_setCell_same _ _ _ h.1, ?_, by rw [World.frozen?_setCell]; exact h.2.2.1, by rw [World.frozen?_setCell]; exact h.2.2.2.1, by simpa [World.setCell] using h.2.2.2.2⟩
  rw [World.cell?_setCell_other _ _ _ _ (by intro k; injection k; omega)]; exact h.2.1
theorem Box.set1 (h : Box w b x y) (v : Value) : Box (w.setCell ⟨b, 1, none⟩ v) b x v := by
  refine ⟨?_, World.cell?_setCell_same _ _ _ h.2.1, by rw [World.frozen?_setCell]; exact h.2.2.1, by rw [World.frozen?_setCell]; exact h.2.2.2.1, by simpa [World.setCell] using h.2.2.2.2⟩
  rw [World.cell?_setCell_other _ _ _ _ (by intro k; injection k; omega)]; exact h.1
theorem Box.far (h : Box w b x y) {a : Addr} (ha : a.block ≠ b) (v : Value) : Box (w.setCell a v) b x y := by
  refine ⟨?_, ?_, by rw [World.frozen?_setCell]; exact h.2.2.1, by rw [World.frozen?_setCell]; exact h.2.2.2.1, by simpa [World.setCell] using h.2.2.2.2⟩
  · rw [World.cell?_setCell_other _ _ _ _ (by intro k; rw [k] at ha; exact ha rfl)]; exact h.1
  · rw [World.cell?_setCell_other _ _ _ _ (by intro k; rw [k] at ha; exact ha rfl)]; exact h.2.1
end
theorem box2_kept {w w1 : World} {x y x' y' : Value} {t t' : TypeId} (hb : Below ((w.alloc (.cells #[x, y] t)).alloc (.cells #[x', y'] t')).heap.size ((w.alloc (.cells #[x, y] t)).alloc (.cells #[x', y'] t')) w1) :
    Box w1 w.heap.size x y ∧ Box w1 (w.heap.size + 1) x' y' ∧ Below w.heap.size w w1 := by
  have h2 := (box_new (w.alloc (.cells #[x, y] t)) x' y' t').keep hb
  have e : (w.alloc (.cells #[x, y] t)).heap.size = w.heap.size + 1 := by simp
  rw [e] at h2
  exact ⟨((box_new w x y t).alloc _).keep hb, h2, bq_trans (bq_alloc (bq_alloc (bq_refl w) _) _) hb⟩
end Go.Proofs.Ytffcfcgkpebdoaa
namespace Go.Proofs.Ytffcfcgkpebdoaa
open Go.RowKit
set_option linter.unusedVariables false
theorem isright_yes (s : ByteArray) (a : Int) (w : World) (hs : s.size ≤ 1099511627776) (h0 : 0 ≤ a) (h1 : a ≤ 8 * s.size) : Calls Try.prog 31 #[.agg #[.string s, .int .i64 a]] w fun e w' => e = .returned (.bool true) ∧ Below w.heap.size w w' :=
  (isright_any s a w hs).mono fun e w' ⟨he, hw⟩ => ⟨by rw [he]; simp; omega, hw⟩
theorem isright_no (s : ByteArray) (a : Int) (w : World) (hs : s.size ≤ 1099511627776) (h : a < 0 ∨ 8 * s.size < a) : Calls Try.prog 31 #[.agg #[.string s, .int .i64 a]] w fun e w' => e = .returned (.bool false) ∧ Below w.heap.size w w' :=
  (isright_any s a w hs).mono fun e w' ⟨he, hw⟩ => ⟨by rw [he]; simp; omega, hw⟩
def errR (e : Int) : Value := .tuple #[.int .i64 0, .agg #[.string ⟨#[]⟩, .int .i64 0], .int .i64 e]
def plE (m : Nat) (a n : Int) : Int := if 0 ≤ a ∧ a ≤ 8 * m ∧ 0 ≤ n ∧ n ≤ 31 then (if 8 * m - a < n then 2 else 0) else 1
def plV (s : ByteArray) (a n : Int) : Int := if plE s.size a n = 0 then (B.fld s.data.toList a.toNat n.toNat : Int) else 0
def plS (s : ByteArray) (a n : Int) : ByteArray := if plE s.size a n = 0 then s else ⟨#[]⟩
def plA (s : ByteArray) (a n : Int) : Int := if plE s.size a n = 0 then a + n else 0
def plR (s : ByteArray) (a n : Int) : Value := .tuple #[.int .i64 (plV s a n), .agg #[.string (plS s a n), .int .i64 (plA s a n)], .int .i64 (plE s.size a n)]
attribute [local go_sem ↓] Go.wp_at_zero Go.wp_at_succ
end Go.Proofs.Ytffcfcgkpebdoaa
namespace Go.Proofs.Ytffcfcgkpebdoaa.B
set_option linter.unusedVariables false
def putN (m f n : Nat) : Nat := (8 * m - f + n + 7) / 8
def putF (m f n : Nat) : Nat := 8 * putN m f n - (8 * m - f + n)
def putX (l : List UInt8) (f v n : Nat) : Nat := (bv l / P2 f * P2 n + v) * P2 (putF l.length f n)
def putL (l : List UInt8) (f v n : Nat) : List UInt8 := enc (putN l.length f n) (putX l f v n)
def Snd (l : List UInt8) (f : Nat) : Prop := f ≤ 7 ∧ f ≤ 8 * l.length ∧ bv l % P2 f = 0
theorem putN_eq (m f n : Nat) : 8 * putN m f n = (8 * m - f + n) + putF m f n := by unfold putF putN; omega
theorem head_lt (l : List UInt8) (f : Nat) (h : f ≤ 8 * l.length) : bv l / P2 f < P2 (8 * l.length - f) := by
  apply div_lt
  rw [show f + (8 * l.length - f) = 8 * l.length by omega]
  exact bv_lt l
theorem join_lt {x y a n : Nat} (hx : x < P2 a) (hy : y < P2 n) : x * P2 n + y < P2 (a + n) := by
  rw [P2_add]
  have h : (x + 1) * P2 n ≤ P2 a * P2 n := Nat.mul_le_mul_right _ hx
  rw [Nat.add_mul] at h
  omega
theorem shift_lt {x a g : Nat} (hx : x < P2 a) : x * P2 g < P2 (a + g) := by
  have := join_lt (n := g) hx (P2_pos g)
  omega
theorem putX_lt (l : List UInt8) (f v n : Nat) (hf : f ≤ 8 * l.length) (hv : v < P2 n) : putX l f v n < P2 (8 * putN l.length f n) := by
  rw [putN_eq]
  exact shift_lt (join_lt (head_lt l f hf) hv)
theorem putL_len (l : List UInt8) (f v n : Nat) : (putL l f v n).length = putN l.length f n := enc_len _ _
theorem putL_bv (l : List UInt8) (f v n : Nat) (hf : f ≤ 8 * l.length) (hv : v < P2 n) : bv (putL l f v n) = putX l f v n := bv_enc _ _ (putX_lt l f v n hf hv)
theorem putL_head (l : List UInt8) (f v n : Nat) (hf : f ≤ 8 * l.length) (hv : v < P2 n) : bv (putL l f v n) / P2 (putF l.length f n) = bv l / P2 f * P2 n + v := by
  rw [putL_bv l f v n hf hv, putX, Nat.mul_div_cancel _ (P2_pos _)]
theorem putF_comp (m f k n : Nat) (hf : f ≤ 8 * m) : putF (putN m f k) (putF m f k) n = putF m f (k + n) := by unfold putF putN; omega
theorem putN_comp (m f k n : Nat) (hf : f ≤ 8 * m) : putN (putN m f k) (putF m f k) n = putN m f (k + n) := by unfold putF putN; omega
theorem putL_comp (l : List UInt8) (f u k v n : Nat) (hf : f ≤ 8 * l.length) (hu : u < P2 k) (hv : v < P2 n) :
    putL (putL l f u k) (putF l.length f k) v n = putL l f (u * P2 n + v) (k + n) := by
  have h := putL_head l f u k hf hu
  unfold putL putX at h ⊢
  rw [enc_len, h, putN_comp _ _ _ _ hf, putF_comp _ _ _ _ hf]
  congr 2
  rw [P2_add, Nat.add_mul, Nat.mul_assoc, Nat.add_assoc]
theorem enc_get (m x i : Nat) (h : i < m) (h' : i < (enc m x).length) : (enc m x)[i].toNat = x / P2 (8 * (m - 1 - i)) % 256 := by
  induction m generalizing x with
  | zero => omega
  | succ m ih =>
    have hl := enc_len m (x / 256)
    by_cases e : i = m
    · subst e
      have : (enc (i + 1) x)[i] = UInt8.ofNat (x % 256) := by
        simp only [enc]
        rw [List.getElem_append_right (by omega)]
        simp [hl]
      rw [this, ofNat_toNat _ (Nat.mod_lt _ (by omega)), show i + 1 - 1 - i = 0 by omega, Nat.mul_zero, P2_zero, Nat.div_one]
    · have : (enc (m + 1) x)[i] = (enc m (x / 256))[i]'(by omega) := by
        simp only [enc]
        rw [List.getElem_append_left (by omega)]
      rw [this, ih _ (by omega) (by omega), Nat.div_div_eq_div_mul, ← P2_byte, show m - 1 - i + 1 = m + 1 - 1 - i by omega]
def le : Nat → Nat → List UInt8
  | 0, _ => []
  | n + 1, v => UInt8.ofNat (v % 256) :: le n (v / 256)
theorem le_len (n v : Nat) : (le n v).length = n := by
  induction n generalizing v with
  | zero => rfl
  | succ n ih => simp [le, ih]
theorem le_get (n v i : Nat) (h : i < n) (h' : i < (le n v).length) : (le n v)[i].toNat = v / P2 (8 * i) % 256 := by
  induction n generalizing v i with
  | zero => omega
  | succ n ih =>
    cases i with
    | zero => show (UInt8.ofNat (v % 256)).toNat = _; rw [ofNat_toNat _ (Nat.mod_lt _ (by omega)), Nat.mul_zero, P2_zero, Nat.div_one]
    | succ i =>
      have hi : i < (le n (v / 256)).length := by rw [le_len]; omega
      show ((le n (v / 256))[i]'hi).toNat = _
      rw [ih _ _ (by omega) hi, Nat.div_div_eq_div_mul, ← P2_byte]
theorem lv_le (n v : Nat) (h : v < P2 (8 * n)) : lv (le n v) = v := by
  induction n generalizing v with
  | zero => rw [Nat.mul_zero, P2_zero] at h; simp [le, lv]; omega
  | succ n ih =>
    rw [P2_byte] at h
    rw [le, lv, ih _ (by omega), ofNat_toNat _ (Nat.mod_lt _ (by omega))]
    omega
end Go.Proofs.Ytffcfcgkpebdoaa.B
namespace Go.Proofs.Ytffcfcgkpebdoaa
open Go.RowKit
set_option linter.unusedVariables false
def bs (l : List UInt8) : ByteArray := ⟨l.toArray⟩
theorem bs_data (l : List UInt8) : (bs l).data.toList = l := rfl
theorem bs_of (s : ByteArray) : bs s.data.toList = s := rfl
theorem bs_size (l : List UInt8) : (bs l).size = l.length := rfl
theorem bs_append (a b : List UInt8) : bs a ++ bs b = bs (a ++ b) := by
  apply ByteArray.ext
  rw [ByteArray.data_append]
  simp [bs]
def BRow (w : World) (g : Nat) (l : List UInt8) : Prop :=
  g < w.heap.size ∧ ∀ i (h : i < l.length), w.cell? ⟨g, i, none⟩ = some (.int .u8 (l[i].toNat : Int)) ∧ w.frozen? ⟨g, i, none⟩ = false
section
variable {w w' : World} {g : Nat} {l : List UInt8}
theorem BRow.set (h : BRow w g l) {i : Nat} (hi : i < l.length) (x : UInt8) : BRow (w.setCell ⟨g, i, none⟩ (.int .u8 (x.toNat : Int))) g (l.set i x) := by
  refine ⟨by simpa [World.setCell] using h.1, fun j hj => ?_⟩
  have hj' : j < l.length := by rw [List.length_set] at hj; exact hj
  refine ⟨?_, by rw [World.frozen?_setCell]; exact (h.2 j hj').2⟩
  by_cases e : j = i
  · subst e
    rw [World.cell?_setCell_same _ _ _ (h.2 j hj').1, List.getElem_set_self]
  · rw [World.cell?_setCell_other _ _ _ _ (by intro k; injection k; omega), (h.2 j hj').1, List.getElem_set_ne (by omega)]
theorem BRow.str (h : BRow w g l) (c : Nat) : (convert 66 9 (.slice (some ⟨g, 0, none⟩) l.length c)).run Try.prog w = .ok (.string (bs l)) w :=
  run_convert_bytes_back (P := Try.prog) w 66 9 5 ⟨g, 0, none⟩ c l Try.underlying66 Try.underlying5 Try.underlying9 (fun j hj => by rw [← (h.2 j hj).1]; congr 1; unfold Addr.add; split <;> simp_all)
end
theorem byte_info : (Try.prog.info? 5).map (fun i => (i.zero, i.size, i.bytes)) = some (some (.int .u8 0), 1, 1) := by kernel_rfl
theorem brow_made (w : World) (n : Nat) : BRow (w.alloc (.cells (madeCells #[.int .u8 0] n) 5)) w.heap.size (List.replicate n 0) := by
  refine ⟨by simp, fun i hi => ?_⟩
  have hi' : i < n := by rw [List.length_replicate] at hi; exact hi
  refine ⟨?_, World.frozen?_alloc_new ..⟩
  rw [World.cell?_alloc_new, ← Array.getElem?_toList, toList_madeCells_one, List.getElem?_replicate, if_pos hi', List.getElem_replicate]
  rfl
theorem made_bytes (x : Int) (n : Nat) (hx : x = n) (hn : n ≤ 1000000) (w : World) : (Instr.makeSlice 66 (.int .i64 x) (.int .i64 x)).run Try.prog w = .ok (.slice (some ⟨w.heap.size, 0, none⟩) n n) (w.alloc (.cells (madeCells #[.int .u8 0] n) 5)) := by
  rw [hx]
  exact run_make_row' (P := Try.prog) 66 5 (.int .u8 0) 1 Try.underlying66 byte_info rfl .i64 .i64 n (by omega) (by omega) w
def sndB (s : ByteArray) (f : Int) : Bool := decide (f = 0) || (decide (0 < f) && decide (f ≤ 7) && decide (0 < s.size) && decide (B.bv s.data.toList % B.P2 f.toNat = 0))
end Go.Proofs.Ytffcfcgkpebdoaa
namespace Go.Proofs.Ytffcfcgkpebdoaa
open Go.RowKit
set_option linter.unusedVariables false
def PutRel (w1 : World) (g b t V : Nat) (i : Value) (wr : World) : Prop :=
  ∃ k : Nat, k ≤ t ∧ i = .int .i64 k ∧ BRow wr g ((B.enc t V).take k ++ List.replicate (t - k) 0) ∧ Box wr b (.string ⟨#[]⟩) (.int .i64 0) ∧ Below w1.heap.size w1 wr
theorem list_step (T : List UInt8) (t k : Nat) (hT : T.length = t) (hk : k < t) (h' : k < T.length) : (T.take k ++ List.replicate (t - k) 0).set k T[k] = T.take (k + 1) ++ List.replicate (t - (k + 1)) 0 := by
  rw [List.set_append_right _ _ (by simp; omega), List.length_take, Nat.min_eq_left (by omega), Nat.sub_self, show t - k = (t - (k + 1)) + 1 by omega, List.replicate_succ, List.set_cons_zero, List.take_succ_eq_append_getElem h', List.append_assoc]
  rfl
end Go.Proofs.Ytffcfcgkpebdoaa
namespace Go.Proofs.Ytffcfcgkpebdoaa
open Go.RowKit
set_option linter.unusedVariables false
def mag (v : Int) : Nat := if v < 0 then (-v - 1).toNat else v.toNat
def wd (v : Int) : Nat := if v = 0 then 0 else Lib.bitLen (mag v) + 1
def pw (v : Int) : Nat := Lib.bitLen v.toNat
def WdRel (v : Int) (n : Value) : Prop := ∃ k : Nat, k ≤ wd v ∧ n = .int .i64 k
end Go.Proofs.Ytffcfcgkpebdoaa
namespace Go.Proofs.Ytffcfcgkpebdoaa
open Go.RowKit
set_option linter.unusedVariables false
def nf (s : ByteArray) (f : Int) : Nat := if 0 < f ∧ f ≤ 7 ∧ 0 < s.size ∧ B.bv s.data.toList % B.P2 f.toNat = 0 then f.toNat else 0
def errW : Value := .tuple #[.agg #[.string ⟨#[]⟩, .int .i64 0], .int .i64 1]
theorem box2_now (w : World) (x y x' y' : Value) (t t' : TypeId) : Box ((w.alloc (.cells #[x, y] t)).alloc (.cells #[x', y'] t')) w.heap.size x y ∧ Box ((w.alloc (.cells #[x, y] t)).alloc (.cells #[x', y'] t')) (w.heap.size + 1) x' y' ∧ Below w.heap.size w ((w.alloc (.cells #[x, y] t)).alloc (.cells #[x', y'] t')) :=
  box2_kept (bq_refl _)
def ppR (s : ByteArray) (f : Int) (v n : Nat) : Value := .tuple #[.agg #[.string (bs (B.putL s.data.toList (nf s f) v n)), .int .i64 (B.putF s.size (nf s f) n : Int)], .int .i64 0]
def ppOk (v n : Int) : Bool := decide (0 ≤ n) && decide (n ≤ 31) && decide (0 ≤ v) && decide (v.toNat < B.P2 n.toNat)
def sgU (v : Int) (n : Nat) : Nat := if v < 0 then (v + B.P2 n).toNat else v.toNat
def psOk (v n : Int) : Bool := decide (0 ≤ n) && decide (n ≤ 31) && decide ((wd v : Int) ≤ n)
end Go.Proofs.Ytffcfcgkpebdoaa
namespace Go.Proofs.Ytffcfcgkpebdoaa
open Go.RowKit
set_option linter.unusedVariables false
def RPRel (s : ByteArray) (a n : Nat) (v i : Value) : Prop := ∃ k x : Nat, k ≤ n ∧ i = .int .i64 k ∧ v = .int .i64 (x : Int) ∧ x = B.fld s.data.toList a k
attribute [local go_sem ↓] Go.wp_at_zero Go.wp_at_succ
end Go.Proofs.Ytffcfcgkpebdoaa
namespace Go.Proofs.Ytffcfcgkpebdoaa
open Go.RowKit
set_option linter.unusedVariables false
def sgV (s : ByteArray) (a n : Int) : Int := if 0 < n ∧ B.P2 n.toNat ≤ 2 * (plV s a n).toNat then plV s a n - B.P2 n.toNat else plV s a n
def sgR (s : ByteArray) (a n : Int) : Value := .tuple #[.int .i64 (sgV s a n), .agg #[.string (plS s a n), .int .i64 (plA s a n)], .int .i64 (plE s.size a n)]
end Go.Proofs.Ytffcfcgkpebdoaa
namespace Go.Proofs.Ytffcfcgkpebdoaa
open Go.RowKit
set_option linter.unusedVariables false
def alA (m : Nat) (a : Int) : Int := if 0 ≤ a ∧ a ≤ 8 * m then (a + 7) / 8 * 8 else a
theorem align_post {Q : Ending → World → Prop} {a : Act} {W : World} {g : Nat} {x y : Value} (hbox : Box W g x y) (h : a.tmps[2]?.getD undef = .pointer (some ⟨g, 0, none⟩))
    (hd : a.defers = []) (hQ : Q (.returned (.agg #[x, y])) W) : bodyPost Try.prog Try.f32 Q Exit.ret a W :=
  bodyPost_ret (v := .agg #[x, y]) (by simp [results, Try.results32, go_sem, h, hbox.1, hbox.2.1]) hd hQ
theorem align_yes (s : ByteArray) (a : Int) (w : World) (hs : s.size ≤ 1099511627776) (h0 : 0 ≤ a) (h1 : a ≤ 8 * s.size) :
    Calls Try.prog 32 #[.agg #[.string s, .int .i64 a]] w fun e w' => e = .returned (.agg #[.string s, .int .i64 ((a + 7) / 8 * 8)]) ∧ Below w.heap.size w w' := by
  go_enter Try.func32, Try.ntmps32
  go_wp2_with fail
  refine (isright_yes s a _ hs h0 h1).mono ?_
  rintro e w1 ⟨rfl, hb⟩
  obtain ⟨⟨c0, c1, f0, f1, _⟩, ⟨d0, d1, g0, g1, hz⟩, H⟩ := box2_kept hb
  have H1 := Lib.hid H
  clear hb H
  go_wp2
  exact align_post ((((Box.far ⟨d0, d1, g0, g1, hz⟩ (by simp) _).set0 _).set1 _)) rfl rfl ⟨rfl, bq_set (bq_set (bq_set H1.out _ (by simp) _) _ (by simp) _) _ (by simp) _⟩
theorem align_no (s : ByteArray) (a : Int) (w : World) (hs : s.size ≤ 1099511627776) (h : a < 0 ∨ 8 * s.size < a) :
    Calls Try.prog 32 #[.agg #[.string s, .int .i64 a]] w fun e w' => e = .returned (.agg #[.string s, .int .i64 a]) ∧ Below w.heap.size w w' := by
  have H := Lib.hid h
  clear h
  go_enter Try.func32, Try.ntmps32
  go_wp2_with fail
  refine (isright_no s a _ hs H.out).mono ?_
  rintro e w1 ⟨rfl, hb⟩
  obtain ⟨⟨c0, c1, f0, f1, _⟩, ⟨d0, d1, g0, g1, hz⟩, H⟩ := box2_kept hb
  have H1 := Lib.hid H
  clear hb H
  go_wp2
  exact align_post (((Box.set0 ⟨d0, d1, g0, g1, hz⟩ _).set1 _)) rfl rfl ⟨rfl, bq_set (bq_set H1.out _ (by simp) _) _ (by simp) _⟩
theorem align_any (s : ByteArray) (a : Int) (w : World) (hs : s.size ≤ 1099511627776) :
    Calls Try.prog 32 #[.agg #[.string s, .int .i64 a]] w fun e w' => e = .returned (.agg #[.string s, .int .i64 (alA s.size a)]) ∧ Below w.heap.size w w' := by
  unfold alA
  by_cases h : 0 ≤ a ∧ a ≤ 8 * s.size
  · rw [if_pos h]; exact align_yes s a w hs h.1 h.2
  · rw [if_neg h]; exact align_no s a w hs (by omega)
def cellInt (w : World) (g o : Nat) : Int := match w.cell? ⟨g, o, none⟩ with | some (.int _ n) => n | _ => 0
def alM (w : World) (g : Nat) : Nat := ((8 - cellInt w g 1 % 8) % 8).toNat
def AlRel (s : ByteArray) (a : Int) (w wr : World) : Prop :=
  ∃ x : Int, Box wr w.heap.size (.string s) (.int .i64 x) ∧ Box wr (w.heap.size + 1) (.string ⟨#[]⟩) (.int .i64 0) ∧ Below w.heap.size w wr ∧ alA s.size x = alA s.size a
end Go.Proofs.Ytffcfcgkpebdoaa
namespace Go.Proofs.Ytffcfcgkpebdoaa
open Go.RowKit
set_option linter.unusedVariables false
def errB (e : Int) : Value := .tuple #[.string ⟨#[]⟩, .agg #[.string ⟨#[]⟩, .int .i64 0], .int .i64 e]
def byE (m : Nat) (a n : Int) : Int := if 0 ≤ a ∧ a ≤ 8 * m ∧ 0 ≤ n then (if (m : Int) - (a + 7) / 8 < n then 2 else 0) else 1
def byB (s : ByteArray) (a n : Int) : ByteArray := if byE s.size a n = 0 then s.extract ((a + 7) / 8).toNat (((a + 7) / 8).toNat + n.toNat) else ⟨#[]⟩
def byS (s : ByteArray) (a n : Int) : ByteArray := if byE s.size a n = 0 then s else ⟨#[]⟩
def byA (s : ByteArray) (a n : Int) : Int := if byE s.size a n = 0 then 8 * ((a + 7) / 8 + n) else 0
def byR (s : ByteArray) (a n : Int) : Value := .tuple #[.string (byB s a n), .agg #[.string (byS s a n), .int .i64 (byA s a n)], .int .i64 (byE s.size a n)]
theorem byR_arg {s : ByteArray} {a n : Int} (h : ¬ (0 ≤ a ∧ a ≤ 8 * s.size ∧ 0 ≤ n)) : byR s a n = errB 1 := by
  have e : byE s.size a n = 1 := if_neg h
  simp [byR, byB, byS, byA, e, errB]
theorem byR_short {s : ByteArray} {a n : Int} (h : 0 ≤ a ∧ a ≤ 8 * s.size ∧ 0 ≤ n) (h2 : (s.size : Int) - (a + 7) / 8 < n) : byR s a n = errB 2 := by
  have e : byE s.size a n = 2 := by unfold byE; rw [if_pos h, if_pos h2]
  simp [byR, byB, byS, byA, e, errB]
theorem byR_ok {s : ByteArray} {a : Int} {n k : Nat} (h : 0 ≤ a ∧ a ≤ 8 * s.size ∧ 0 ≤ (n : Int)) (hk : (k : Int) = (a + 7) / 8) (h2 : ¬ (s.size : Int) - (a + 7) / 8 < n) :
    byR s a n = .tuple #[.string (s.extract k (k + n)), .agg #[.string s, .int .i64 (8 * ((k : Int) + (n : Int)))], .int .i64 0] := by
  have e : byE s.size a n = 0 := by unfold byE; rw [if_pos h, if_neg h2]
  simp [byR, byB, byS, byA, e, ← hk]
theorem bytes_post {Q : Ending → World → Prop} {a : Act} {W : World} {g : Nat} {x y u v : Value} (hbox : Box W g x y) (h4 : a.tmps[4]?.getD undef = u) (h5 : a.tmps[5]?.getD undef = .pointer (some ⟨g, 0, none⟩)) (h6 : a.tmps[6]?.getD undef = v)
    (hd : a.defers = []) (hQ : Q (.returned (.tuple #[u, .agg #[x, y], v])) W) : bodyPost Try.prog Try.f26 Q Exit.ret a W :=
  bodyPost_ret (v := .tuple #[u, .agg #[x, y], v]) (by simp [results, Try.results26, go_sem, h4, h5, h6, hbox.1, hbox.2.1]) hd hQ
theorem bytes_bad1 (s : ByteArray) (a n : Int) (w : World) (hs : s.size ≤ 1099511627776) (h : a < 0 ∨ 8 * s.size < a) :
    Calls Try.prog 26 #[.agg #[.string s, .int .i64 a], .int .i64 n] w fun e w' => e = .returned (errB 1) ∧ Below w.heap.size w w' := by
  have H := Lib.hid h
  clear h
  go_enter Try.func26, Try.ntmps26
  go_wp2_with fail
  refine (isright_no s a _ hs H.out).mono ?_
  rintro e w1 ⟨rfl, hb⟩
  obtain ⟨⟨c0, c1, f0, f1, _⟩, ⟨d0, d1, g0, g1, hz⟩, H⟩ := box2_kept hb
  have H1 := Lib.hid H
  clear hb H
  go_wp2_with fail
  exact bytes_post (((Box.set0 ⟨d0, d1, g0, g1, hz⟩ _).set1 _)) rfl rfl rfl rfl ⟨rfl, bq_set (bq_set H1.out _ (by simp) _) _ (by simp) _⟩
theorem bytes_bad2 (s : ByteArray) (a n : Int) (w : World) (hs : s.size ≤ 1099511627776) (h0 : 0 ≤ a) (h1 : a ≤ 8 * s.size) (h : n < 0) :
    Calls Try.prog 26 #[.agg #[.string s, .int .i64 a], .int .i64 n] w fun e w' => e = .returned (errB 1) ∧ Below w.heap.size w w' := by
  go_enter Try.func26, Try.ntmps26
  go_wp2_with fail
  refine (isright_yes s a _ hs h0 h1).mono ?_
  rintro e w1 ⟨rfl, hb⟩
  obtain ⟨⟨c0, c1, f0, f1, _⟩, ⟨d0, d1, g0, g1, hz⟩, H⟩ := box2_kept hb
  have H1 := Lib.hid H
  clear hb H
  go_wp2_with fail
  exact bytes_post (((Box.set0 ⟨d0, d1, g0, g1, hz⟩ _).set1 _)) rfl rfl rfl rfl ⟨rfl, bq_set (bq_set H1.out _ (by simp) _) _ (by simp) _⟩
theorem bytes_short (s : ByteArray) (a n : Int) (k : Nat) (w : World) (hs : s.size ≤ 1099511627776) (h0 : 0 ≤ a) (h1 : a ≤ 8 * s.size) (hn : 0 ≤ n) (hk : k ≤ s.size) (h : (s.size : Int) - k < n)
    (HA : Hid (∀ w, Calls Try.prog 32 #[.agg #[.string s, .int .i64 a]] w fun e w' => e = .returned (.agg #[.string s, .int .i64 ((k : Int) * 8)]) ∧ Below w.heap.size w w')) :
    Calls Try.prog 26 #[.agg #[.string s, .int .i64 a], .int .i64 n] w fun e w' => e = .returned (errB 2) ∧ Below w.heap.size w w' := by
  have hfd : ∀ w : World, (Instr.field 52 (.agg #[.string s, .int .i64 ((k : Int) * 8)]) 1).run Try.prog w = .ok (.int .i64 ((k : Int) * 8)) w := fun _ => by kernel_rfl
  go_enter Try.func26, Try.ntmps26
  go_wp2_with fail
  refine (isright_yes s a _ hs h0 h1).mono ?_
  rintro e w1 ⟨rfl, hb⟩
  obtain ⟨⟨c0, c1, f0, f1, cz⟩, ⟨d0, d1, g0, g1, hz⟩, H⟩ := box2_kept hb
  have H1 := Lib.hid H
  clear hb H
  go_wp2_with fail
  refine (HA.out _).mono ?_
  rintro e w2 ⟨rfl, hb⟩
  obtain ⟨c0', c1', f0', f1', cz'⟩ := Box.keep ⟨c0, c1, f0, f1, cz⟩ hb
  obtain ⟨d0', d1', g0', g1', hz'⟩ := Box.keep ⟨d0, d1, g0, g1, hz⟩ hb
  have H2 := Lib.hid (bq_trans H1.out hb)
  clear hb
  go_wp2_with fail
  exact bytes_post (((Box.set0 ⟨d0', d1', g0', g1', hz'⟩ _).set1 _)) rfl rfl rfl rfl ⟨rfl, bq_set (bq_set H2.out _ (by simp) _) _ (by simp) _⟩
set_option maxHeartbeats 1000000 in
theorem bytes_ok (s : ByteArray) (a : Int) (k n : Nat) (w : World) (hs : s.size ≤ 1099511627776) (h0 : 0 ≤ a) (h1 : a ≤ 8 * s.size) (hk : k + n ≤ s.size)
    (HA : Hid (∀ w, Calls Try.prog 32 #[.agg #[.string s, .int .i64 a]] w fun e w' => e = .returned (.agg #[.string s, .int .i64 ((k : Int) * 8)]) ∧ Below w.heap.size w w')) :
    Calls Try.prog 26 #[.agg #[.string s, .int .i64 a], .int .i64 n] w fun e w' => e = .returned (.tuple #[.string (s.extract k (k + n)), .agg #[.string s, .int .i64 (8 * ((k : Int) + (n : Int)))], .int .i64 0]) ∧ Below w.heap.size w w' := by
  have hfd : ∀ w : World, (Instr.field 52 (.agg #[.string s, .int .i64 ((k : Int) * 8)]) 1).run Try.prog w = .ok (.int .i64 ((k : Int) * 8)) w := fun _ => by kernel_rfl
  go_enter Try.func26, Try.ntmps26
  go_wp2_with fail
  refine (isright_yes s a _ hs h0 h1).mono ?_
  rintro e w1 ⟨rfl, hb⟩
  obtain ⟨⟨c0, c1, f0, f1, cz⟩, ⟨d0, d1, g0, g1, hz⟩, H⟩ := box2_kept hb
  have H1 := Lib.hid H
  clear hb H
  go_wp2_with fail
  refine (HA.out _).mono ?_
  rintro e w2 ⟨rfl, hb⟩
  obtain ⟨c0', c1', f0', f1', cz'⟩ := Box.keep ⟨c0, c1, f0, f1, cz⟩ hb
  obtain ⟨d0', d1', g0', g1', hz'⟩ := Box.keep ⟨d0, d1, g0, g1, hz⟩ hb
  have H2 := Lib.hid (bq_trans H1.out hb)
  clear hb
  go_wp2_with fail
  clear c0 c1 f0 f1 cz d0 d1 g0 g1 hz H1
  have b1 : (0 : Int) ≤ (k : Int) := by omega
  have b2 : (k : Int) ≤ (k : Int) + (n : Int) := by omega
  have b3 : (k : Int) + (n : Int) ≤ (s.size : Int) := by omega
  have wr1 := i64_wrap ((k : Int) + (n : Int)) (by omega) (by omega)
  have wr2 := i64_wrap (8 * ((k : Int) + (n : Int))) (by omega) (by omega)
  have tn : ((k : Int) + (n : Int)).toNat = k + n := by omega
  go_region_held3 (fun w' => w'.cell? ⟨w.heap.size, 0, none⟩ = some (.string s)) (go_keep) (fail)
  all_goals go_wp2
  exact bytes_post ((((Box.drewN ⟨d0', d1', g0', g1', hz'⟩ _).set0 _).set1 _)) rfl rfl rfl rfl ⟨rfl, bq_set (bq_set (bq_drewN H2.out _) _ (by simp) _) _ (by simp) _⟩
theorem bytes_any (s : ByteArray) (a n : Int) (w : World) (hs : s.size ≤ 1099511627776) :
    Calls Try.prog 26 #[.agg #[.string s, .int .i64 a], .int .i64 n] w fun e w' => e = .returned (byR s a n) ∧ Below w.heap.size w w' := by
  by_cases h : 0 ≤ a ∧ a ≤ 8 * s.size ∧ 0 ≤ n
  · obtain ⟨k, hk⟩ : ∃ k : Nat, (k : Int) = (a + 7) / 8 := ⟨((a + 7) / 8).toNat, by omega⟩
    have HA := fun w => align_any s a w hs
    rw [alA, if_pos ⟨h.1, h.2.1⟩, ← hk] at HA
    by_cases h2 : (s.size : Int) - (a + 7) / 8 < n
    · rw [byR_short h h2]; exact bytes_short s a n k w hs h.1 h.2.1 h.2.2 (by omega) (by omega) (Lib.hid HA)
    · obtain ⟨N, rfl⟩ := Int.eq_ofNat_of_zero_le h.2.2
      rw [byR_ok h hk h2]; exact bytes_ok s a k N w hs h.1 h.2.1 (by omega) (Lib.hid HA)
  · rw [byR_arg h]
    by_cases h3 : 0 ≤ a ∧ a ≤ 8 * s.size
    · exact bytes_bad2 s a n w hs h3.1 h3.2 (by omega)
    · exact bytes_bad1 s a n w hs (by omega)
end Go.Proofs.Ytffcfcgkpebdoaa
namespace Go.Proofs.Ytffcfcgkpebdoaa
open Go.RowKit
set_option linter.unusedVariables false
def mxW (zs : List Int) : Nat := zs.foldl (fun m v => max m (wd v)) 0
def mxP (zs : List Int) : Int := zs.foldl (fun m v => max m v) 0
def MxRel (zs : List Int) (m i : Value) : Prop := ∃ k x : Nat, k ≤ zs.length ∧ i = .int .i64 k ∧ m = .int .i64 (x : Int) ∧ x = mxW (zs.take k) ∧ x ≤ 64
def MpRel (zs : List Int) (m i : Value) : Prop := ∃ k : Nat, ∃ x : Int, k ≤ zs.length ∧ i = .int .i64 k ∧ m = .int .i64 x ∧ x = mxP (zs.take k) ∧ 0 ≤ x ∧ x ≤ 9223372036854775807
end Go.Proofs.Ytffcfcgkpebdoaa
namespace Go.Proofs.Ytffcfcgkpebdoaa
open Go.RowKit
set_option linter.unusedVariables false
namespace F
def len : List (Nat × Nat) → Nat
  | [] => 0
  | p :: fs => p.2 + len fs
def num : List (Nat × Nat) → Nat
  | [] => 0
  | p :: fs => p.1 * B.P2 (len fs) + num fs
def ok (fs : List (Nat × Nat)) : Prop := ∀ p ∈ fs, p.1 < B.P2 p.2
theorem ok_cons {p : Nat × Nat} {fs : List (Nat × Nat)} (h : ok (p :: fs)) : p.1 < B.P2 p.2 ∧ ok fs := ⟨h p (by simp), fun q hq => h q (by simp [hq])⟩
theorem len_app (a b : List (Nat × Nat)) : len (a ++ b) = len a + len b := by
  induction a with
  | nil => simp [len]
  | cons p a ih => simp only [List.cons_append, len, ih]; omega
theorem num_app (a b : List (Nat × Nat)) : num (a ++ b) = num a * B.P2 (len b) + num b := by
  induction a with
  | nil => simp [num]
  | cons p a ih => simp only [List.cons_append, num, ih, len_app, B.P2_add, Nat.add_mul, Nat.mul_assoc, Nat.add_assoc]
theorem num_lt {fs : List (Nat × Nat)} (h : ok fs) : num fs < B.P2 (len fs) := by
  induction fs with
  | nil => simp [num, len, B.P2_zero]
  | cons p fs ih => exact B.join_lt (ok_cons h).1 (ih (ok_cons h).2)
def bys (fs : List (Nat × Nat)) : List UInt8 := B.putL [] 0 (num fs) (len fs)
def fr (fs : List (Nat × Nat)) : Nat := B.putF 0 0 (len fs)
theorem put {fs : List (Nat × Nat)} {v n : Nat} (h : ok fs) (hv : v < B.P2 n) : B.putL (bys fs) (fr fs) v n = bys (fs ++ [(v, n)]) ∧ B.putF (bys fs).length (fr fs) n = fr (fs ++ [(v, n)]) := by
  have e1 : len (fs ++ [(v, n)]) = len fs + n := by rw [len_app]; simp [len]
  have e2 : num (fs ++ [(v, n)]) = num fs * B.P2 n + v := by rw [num_app]; simp [len, num, B.P2_zero]
  constructor
  · unfold bys fr
    rw [e1, e2]
    exact B.putL_comp [] 0 (num fs) (len fs) v n (by omega) (num_lt h) hv
  · unfold fr
    rw [e1]
    unfold bys
    rw [B.putL_len]
    exact B.putF_comp 0 0 (len fs) n (by omega)
def wrV (fs : List (Nat × Nat)) : Value := .agg #[.string (bs (bys fs)), .int .i64 (fr fs : Int)]
def nums (h : Nat) (l : List Int) : List (Nat × Nat) := (mxW l, h) :: l.map fun v => (sgU v (mxW l), mxW l)
end F
structure RS where
  s : ByteArray
  a : Int
  e : Int
namespace RS
def pl (x : RS) (n : Int) : Int := if x.e = 0 then plV x.s x.a n else 0
def sg (x : RS) (n : Int) : Int := if x.e = 0 then sgV x.s x.a n else 0
def go (x : RS) (n : Int) : RS := if x.e = 0 then ⟨plS x.s x.a n, plA x.s x.a n, plE x.s.size x.a n⟩ else x
def on (x : RS) (n : Int) : Nat → RS
  | 0 => x
  | k + 1 => (on x n k).go n
def l (x : RS) (n : Int) : Nat → List Int
  | 0 => []
  | k + 1 => l x n k ++ [(on x n k).sg n]
def cells (x : RS) : Array Value := #[.string x.s, .int .i64 x.a, .int .i64 x.e]
def fin (x : RS) (b : Bool) : RS := if x.e = 0 then (if b = true then ⟨x.s, alA x.s.size x.a, 0⟩ else ⟨⟨#[]⟩, 0, 3⟩) else ⟨⟨#[]⟩, 0, x.e⟩
def begP (s : ByteArray) (a : Int) : RS := ⟨s, alA s.size a, 0⟩
def begR (s : ByteArray) (a : Int) : RS := if 0 ≤ a ∧ a ≤ 8 * s.size then ⟨s, alA s.size a, 0⟩ else ⟨⟨#[]⟩, 0, 1⟩
end RS
end Go.Proofs.Ytffcfcgkpebdoaa
namespace Go.Proofs.Ytffcfcgkpebdoaa
open Go.RowKit
set_option linter.unusedVariables false
def Blk (w : World) (b : Nat) (cs : Array Value) (t : TypeId) : Prop := w.heap[b]? = some (.cells cs t (0, 0))
section
variable {w w' : World} {b : Nat} {cs : Array Value} {t : TypeId}
theorem Blk.lt (h : Blk w b cs t) : b < w.heap.size := (Array.getElem?_eq_some_iff.1 h).1
theorem Blk.cell (h : Blk w b cs t) (i : Nat) : w.cell? ⟨b, i, none⟩ = cs[i]? := cell_of_row w b i cs t (0, 0) h
theorem Blk.frozen (h : Blk w b cs t) (i : Nat) : w.frozen? ⟨b, i, none⟩ = false := frozen_of_row w b i cs t h
theorem Blk.keep (h : Blk w b cs t) (hb : Below w.heap.size w w') : Blk w' b cs t := by unfold Blk; rw [hb.block b h.lt]; exact h
theorem blk_new (w : World) (cs : Array Value) (t : TypeId) : Blk (w.alloc (.cells cs t)) w.heap.size cs t := heap_alloc_new w _
theorem Blk.drew (h : Blk w b cs t) : Blk w.drew b cs t := h
theorem Blk.set (h : Blk w b cs t) (i : Nat) (v : Value) : Blk (w.setCell ⟨b, i, none⟩ v) b (cs.setIfInBounds i v) t := heap_setCell_same w b i cs t v h
theorem Blk.other (h : Blk w b cs t) {a : Addr} (v : Value) (ha : b ≠ a.block) : Blk (w.setCell a v) b cs t := by unfold Blk; rw [heap_setCell_other w a b v ha]; exact h
theorem Blk.row (h : Blk w b cs t) (cs' : Array Value) : Blk (w.setRow b cs') b cs' t := setRow_heap w b cs cs' t (0, 0) h
end
structure Turned (g : Nat) (w w' : World) : Prop where
  os : w'.os = w.os
  tape : w'.tape = w.tape
  output : w'.output = w.output
  size : w'.heap.size = w.heap.size
  block : ∀ k, k ≠ g → w'.heap[k]? = w.heap[k]?
section
variable {w w' : World} {b g : Nat} {cs : Array Value} {t : TypeId}
theorem Turned.blk (h : Turned g w w') (hB : Blk w b cs t) (hn : b ≠ g) : Blk w' b cs t := by unfold Blk; rw [h.block b hn]; exact hB
theorem Turned.below {a : World} (h : Turned g w w') (hb : Below a.heap.size a w) (hg : a.heap.size ≤ g) : Below a.heap.size a w' :=
  hb.trans ⟨h.os, h.tape, h.output, Nat.le_of_eq h.size.symm, fun k hk => h.block k (by omega)⟩
theorem turned_row (w : World) (g : Nat) (cs : Array Value) : Turned g w (w.setRow g cs) := ⟨rfl, rfl, rfl, by simp, fun k hk => setRow_other w g k cs hk⟩
theorem turned_set (w : World) (a : Addr) (v : Value) : Turned a.block w (w.setCell a v) := ⟨rfl, rfl, rfl, by simp [World.setCell], fun k hk => heap_setCell_other w a k v hk⟩
end
section
variable {P : Program} {ops : Array Oper} {rest : List Oper} {o : Oper} {a : Act} {w : World} {Q : Exit → Act → World → Prop}
theorem wl_alloc (ty : TypeId) (z : Array Value) (hz : ∀ w, (zeroValue ty).run P w = .ok (.agg z) w) (ho : o.op = .alloc ty) (hgd : o.guard = none)
    (h : ∀ W b, Blk W b z ty → w.heap.size ≤ b → Below w.heap.size w W → wpList P ops Q rest (a.put o.dst (.pointer (some ⟨b, 0, none⟩))) W) : wpList P ops Q (o :: rest) a w := by
  refine wpList_plain hgd fun K hK => ?_
  have := h (w.alloc (.cells z ty)) w.heap.size (blk_new w z ty) (Nat.le_refl _) (bq_alloc (bq_refl w) _)
  unfold Oper.wp execOp
  simp only [ho, Instr.alloc, Sem.run_bind, hz, Result.andThen_ok, newVar, newRow, Value.cells]
  exact hK _ _ this
theorem wl_box (ty : TypeId) (x : Operand) (cs : Array Value) (ho : o.op = .box ty x) (hgd : o.guard = none) (hx : a.eval x = .agg cs)
    (h : ∀ W b, Blk W b cs ty → w.heap.size ≤ b → Below w.heap.size w W → wpList P ops Q rest (a.put o.dst (.pointer (some ⟨b, 0, none⟩))) W) : wpList P ops Q (o :: rest) a w := by
  refine wpList_plain hgd fun K hK => ?_
  have := h (w.alloc (.cells cs ty)) w.heap.size (blk_new w cs ty) (Nat.le_refl _) (bq_alloc (bq_refl w) _)
  unfold Oper.wp execOp
  simp only [ho, hx, Instr.box, Sem.run_bind, newVar, newRow, Value.cells]
  exact hK _ _ this
theorem wl_load (ty : TypeId) (n : Nat) (d : TypeDesc) (hu : P.underlying ty = some d) (hd : (match d with | .struct _ | .array _ _ => true | _ => false) = true) (hi : (P.info? ty).map (·.size) = some n)
    (x : Operand) (ho : o.op = .load ty x) (hgd : o.guard = none) (b : Nat) (hx : a.eval x = .pointer (some ⟨b, 0, none⟩)) (cs : Array Value) (t : TypeId) (hB : Blk w b cs t) (hn : cs.size = n)
    (h : wpList P ops Q rest (a.put o.dst (.agg cs)) w) : wpList P ops Q (o :: rest) a w :=
  wpList_load_row hgd ty x ho b hx t cs (0, 0) d hB hu hd (by rw [hi, hn]) h
theorem wlg_load (ty : TypeId) (n : Nat) (d : TypeDesc) (hu : P.underlying ty = some d) (hd : (match d with | .struct _ | .array _ _ => true | _ => false) = true) (hi : (P.info? ty).map (·.size) = some n)
    (x : Operand) (ho : o.op = .load ty x) (hw : Region.wanted o (yielded ops a.tmps) = true) (b : Nat) (hx : a.eval x = .pointer (some ⟨b, 0, none⟩)) (cs : Array Value) (t : TypeId) (hB : Blk w b cs t) (hn : cs.size = n)
    (h : wpList P ops Q rest (a.put o.dst (.agg cs)) w) : wpList P ops Q (o :: rest) a w := by
  refine wpList_step fun K hK => ?_
  rw [if_pos hw]
  exact wp_load_row ty x ho b hx t cs (0, 0) d hB hu hd (by rw [hi, hn]) (hK _ _ h)
theorem wlg_build (ty : TypeId) (ps : List (Nat × Value)) (cs : Array Value) (hb : P.built ty ps = some cs) (parts : Array (Nat × Operand)) (ho : o.op = .build ty parts) (hw : Region.wanted o (yielded ops a.tmps) = true)
    (hps : (parts.toList.map fun (i, x) => (i, a.eval x)) = ps)
    (h : wpList P ops Q rest (a.put o.dst (.agg cs)) w) : wpList P ops Q (o :: rest) a w := by
  refine wpList_step fun K hK => ?_
  rw [if_pos hw]
  rw [← hps, ← Array.toList_map] at hb
  exact wp_build ty parts ho (by rw [hb]; rfl) (by rw [hb]; exact hK _ _ h)
theorem wl_store (ty : TypeId) (n : Nat) (hi : (P.info? ty).map (·.size) = some n)
    (x y : Operand) (ho : o.op = .store ty x y) (hgd : o.guard = none) (b : Nat) (hx : a.eval x = .pointer (some ⟨b, 0, none⟩)) (cs : Array Value) (hy : a.eval y = .agg cs) (old : Array Value) (t : TypeId) (hB : Blk w b old t) (hn : old.size = n) (hn2 : cs.size = n)
    (h1 : cs.all (·.oneCell') = true)
    (h : ∀ W, Blk W b cs t → Turned b w W → wpList P ops Q rest (a.put o.dst undef) W) : wpList P ops Q (o :: rest) a w :=
  wpList_store_row hgd ty x y ho b cs hx hy t old hB (by rw [hi, hn2]) (by rw [hn, hn2]) h1 (h _ (Blk.row hB cs) (turned_row w b cs))
end
theorem post_cell {P : Program} {fn : Func} {p : Tmp} {ty : TypeId} {a : Act} {W : World} {R : Ending → World → Prop} {n : Nat} {d : TypeDesc}
    (hu : P.underlying ty = some d) (hd : (match d with | .struct _ | .array _ _ => true | _ => false) = true) (hi : (P.info? ty).map (·.size) = some n)
    (hres : fn.results = #[.cell p ty]) {b : Nat} {cs : Array Value} {t : TypeId} (hB : Blk W b cs t) (hn : cs.size = n)
    (hp : a.tmps.getD p undef = .pointer (some ⟨b, 0, none⟩)) (hdf : a.defers = []) (hR : R (.returned (.agg cs)) W) : bodyPost P fn R .ret a W :=
  bodyPost_ret (v := .agg cs) (results_cell_row hres a.tmps W b t cs (0, 0) d hp hB hu hd (by rw [hi, hn])) hdf hR
def Ints (w : World) (zs : List Int) (a : Option Addr) (b o : Nat) : Prop :=
  (zs.length = 0 ∨ a = some ⟨b, o, none⟩) ∧ (∀ i (h : i < zs.length), -9223372036854775808 ≤ zs[i] ∧ zs[i] ≤ 9223372036854775807) ∧ ∀ i (h : i < zs.length), w.cell? ⟨b, o + i, none⟩ = some (.int .i64 zs[i])
def iA (zs : List Int) : Array Value := (zs.map (Value.int .i64 ·)).toArray
section
variable {ops : Array Oper} {rest : List Oper} {o : Oper} {a : Act} {w : World} {Q : Exit → Act → World → Prop}
theorem wlg_slice {P : Program} (t e : TypeId) (len : Nat) (cs : Array Value) (ps : List (Nat × Value)) (hr : ∀ w : World, (Instr.buildSlice t len ps.toArray).run P w = .ok (.slice (some ⟨w.heap.size, 0, none⟩) len len) (w.alloc (.cells cs e)))
    (parts : Array (Nat × Operand)) (ho : o.op = .buildSlice t len parts) (hw : Region.wanted o (yielded ops a.tmps) = true) (hps : (parts.toList.map fun (i, x) => (i, a.eval x)) = ps)
    (h : ∀ W b, Blk W b cs e → w.heap.size ≤ b → Below w.heap.size w W → wpList P ops Q rest (a.put o.dst (.slice (some ⟨b, 0, none⟩) len len)) W) : wpList P ops Q (o :: rest) a w := by
  refine wpList_step fun K hK => ?_
  rw [if_pos hw]
  have := h (w.alloc (.cells cs e)) w.heap.size (blk_new w cs e) (Nat.le_refl _) (bq_alloc (bq_refl w) _)
  have e1 : (parts.map fun (i, x) => (i, a.eval x)) = ps.toArray := by rw [← hps, ← Array.toList_map, Array.toArray_toList]
  unfold Oper.wp execOp
  simp only [ho, Sem.run_bind, e1, hr w, Result.andThen_ok]
  exact hK _ _ this
end
end Go.Proofs.Ytffcfcgkpebdoaa
namespace Go.Proofs.Ytffcfcgkpebdoaa
open Go.RowKit
set_option linter.unusedVariables false
def spl : Array Value → Nat → List Value → Array Value
  | cs, _, [] => cs
  | cs, k, v :: vs => spl (cs.setIfInBounds k v) (k + 1) vs
theorem blk_setCells {b : Nat} {t : TypeId} : ∀ (vs : List Value) (k : Nat) (w : World) (cs : Array Value), Blk w b cs t → Blk (w.setCells b k vs) b (spl cs k vs) t
  | [], _, _, _, h => h
  | v :: vs, k, w, cs, h => blk_setCells vs (k + 1) _ _ (h.set k v)
theorem turned_trans {g : Nat} {a b c : World} (h : Turned g a b) (k : Turned g b c) : Turned g a c :=
  ⟨k.os.trans h.os, k.tape.trans h.tape, k.output.trans h.output, k.size.trans h.size, fun i hi => (k.block i hi).trans (h.block i hi)⟩
theorem turned_refl (g : Nat) (w : World) : Turned g w w := ⟨rfl, rfl, rfl, rfl, fun _ _ => rfl⟩
theorem turned_setCells (b : Nat) : ∀ (vs : List Value) (k : Nat) (w : World), Turned b w (w.setCells b k vs)
  | [], _, w => turned_refl b w
  | v :: vs, k, w => turned_trans (turned_set w ⟨b, k, none⟩ v) (turned_setCells b vs (k + 1) _)
theorem Blk.isSome {w : World} {b : Nat} {cs : Array Value} {t : TypeId} (h : Blk w b cs t) (i : Nat) (hi : i < cs.size) : (w.cell? ⟨b, i, none⟩).isSome = true := by
  rw [h.cell i]; simp [hi]
section
variable {P : Program} {ops : Array Oper} {rest : List Oper} {o : Oper} {a : Act} {w : World} {Q : Exit → Act → World → Prop}
theorem wl_set (ty : TypeId) (x y : Operand) (ho : o.op = .store ty x y) (hgd : o.guard = none) (b k : Nat) (hx : a.eval x = .pointer (some ⟨b, k, none⟩)) (v : Value) (hy : a.eval y = v) (h1 : v.oneCell' = true) (hi : (P.info? ty).map (·.size) = some 1)
    (cs : Array Value) (t : TypeId) (hB : Blk w b cs t) (hk : k < cs.size)
    (h : ∀ W, Blk W b (cs.setIfInBounds k v) t → Turned b w W → wpList P ops Q rest (a.put o.dst undef) W) : wpList P ops Q (o :: rest) a w := by
  refine wpList_plain hgd fun K hK => ?_
  have hr := run_storeCells_cells (P := P) b k [v] 0 w (fun j hj => by simp at hj; subst hj; simpa using hB.isSome k hk) (fun j hj => by simp at hj; subst hj; exact hB.frozen _) (fun u hu => by simp at hu; subst hu; exact h1)
  have hc : v.cells = #[v] := by cases v <;> first | rfl | cases h1
  have hs : (storeVar ty ⟨b, k, none⟩ v).run P w = .ok () (w.setCell ⟨b, k, none⟩ v) := by
    cases hq : P.info? ty with
    | none => simp [hq] at hi
    | some i =>
      have hs : i.size = 1 := by simpa [hq] using hi
      simp only [Nat.add_zero] at hr
      simp [storeVar, sizeOf, typeInfo, hq, hc, hs, hr, World.setCells]
  have := h _ (hB.set k v) (turned_set w ⟨b, k, none⟩ v)
  unfold Oper.wp execOp
  simp only [ho, hx, hy, Instr.storeAt, Instr.sureAddr, Sem.run_bind, Sem.run_pure, Result.andThen_ok, hs]
  exact hK _ _ this
theorem wl_putAt (ty : TypeId) (x y : Operand) (ho : o.op = .store ty x y) (hgd : o.guard = none) (b k : Nat) (hx : a.eval x = .pointer (some ⟨b, k, none⟩)) (us : Array Value) (hy : a.eval y = .agg us) (hi : (P.info? ty).map (·.size) = some us.size) (h1 : us.all (·.oneCell') = true)
    (cs : Array Value) (t : TypeId) (hB : Blk w b cs t) (hk : k + us.size ≤ cs.size) (cs' : Array Value) (hcs : spl cs k us.toList = cs')
    (h : ∀ W, Blk W b cs' t → Turned b w W → wpList P ops Q rest (a.put o.dst undef) W) : wpList P ops Q (o :: rest) a w :=
  wpList_store_mid hgd ty x y ho b k us hx hy (fun j hj => ⟨hB.isSome _ (by omega), hB.frozen _⟩) hi h1 (h _ (hcs ▸ blk_setCells us.toList k w cs hB) (turned_setCells b us.toList k w))
end
structure But (p q : Nat) (w w' : World) : Prop where
  os : w'.os = w.os
  tape : w'.tape = w.tape
  output : w'.output = w.output
  size : w.heap.size ≤ w'.heap.size
  block : ∀ k, k < w.heap.size → k ≠ p → k ≠ q → w'.heap[k]? = w.heap[k]?
theorem But.of {p q : Nat} {w w' : World} (h : Below w.heap.size w w') : But p q w w' := ⟨h.os, h.tape, h.output, h.size, fun k hk _ _ => h.block k hk⟩
theorem Blk.but {p q b : Nat} {w w' : World} {cs : Array Value} {t : TypeId} (hB : Blk w b cs t) (h : But p q w w') (hp : b ≠ p) (hq : b ≠ q) : Blk w' b cs t := by
  unfold Blk; rw [h.block b hB.lt hp hq]; exact hB
theorem But.below {p q : Nat} {a w w' : World} (h : But p q w w') (hb : Below a.heap.size a w) (hp : a.heap.size ≤ p) (hq : a.heap.size ≤ q) : Below a.heap.size a w' :=
  hb.trans ⟨h.os, h.tape, h.output, h.size, fun k hk => h.block k (by have := hb.size; omega) (by omega) (by omega)⟩
end Go.Proofs.Ytffcfcgkpebdoaa
namespace Go.Proofs.Ytffcfcgkpebdoaa
open Go.RowKit Go.WideShapes Go.ChangeShapes
set_option linter.unusedVariables false
def Lasts {α : Type} (R : World → List Value → α → Prop) : Prop := ∀ w w' cs x, R w cs x → Below w.heap.size w w' → R w' cs x
def Sl {α : Type} (w : World) (k : Nat) (R : World → List Value → α → Prop) (sv : Value) (xs : List α) : Prop :=
  ∃ a c b o, sv = .slice a xs.length c ∧ xs.length ≤ 9223372036854775807 ∧ (xs.length = 0 ∨ a = some ⟨b, o, none⟩ ∧ b < w.heap.size) ∧
    ∀ i (h : i < xs.length), ∃ cs : List Value, cs.length = k ∧ R w cs xs[i] ∧ w.rangeAt b (o + i * k) cs
theorem rangeAt_keep {w w' : World} {b o : Nat} {cs : List Value} (h : w.rangeAt b o cs) (hb : Below w.heap.size w w') : w'.rangeAt b o cs := fun j v hv => by
  have := h j v hv
  rw [hb.cell (p := ⟨b, o + j, none⟩) (block_lt_of_cell this)]
  exact this
theorem Sl.keep {α : Type} {w w' : World} {k : Nat} {R : World → List Value → α → Prop} {sv : Value} {xs : List α} (hR : Lasts R) (h : Sl w k R sv xs) (hb : Below w.heap.size w w') : Sl w' k R sv xs := by
  obtain ⟨a, c, b, o, rfl, h1, h2, h3⟩ := h
  refine ⟨a, c, b, o, rfl, h1, h2.imp id (fun ⟨p, q⟩ => ⟨p, by have := hb.size; omega⟩), fun i hi => ?_⟩
  obtain ⟨cs, g1, g2, g3⟩ := h3 i hi
  exact ⟨cs, g1, hR _ _ _ _ g2 hb, rangeAt_keep g3 hb⟩
theorem sl_nil {α : Type} (w : World) (k : Nat) (R : World → List Value → α → Prop) : Sl w k R (.slice none 0 0) ([] : List α) := ⟨none, 0, 0, 0, rfl, by simp, Or.inl rfl, fun i hi => absurd hi (by simp)⟩
theorem Sl.get {α : Type} {w : World} {k : Nat} {R : World → List Value → α → Prop} {sv : Value} {xs : List α} (h : Sl w k R sv xs) : ∃ a c b o, sv = .slice a xs.length c ∧ xs.length ≤ 9223372036854775807 ∧
    ∀ i (hi : i < xs.length), a = some ⟨b, o, none⟩ ∧ b < w.heap.size ∧ ∃ cs : List Value, cs.length = k ∧ R w cs xs[i] ∧ w.rangeAt b (o + i * k) cs := by
  obtain ⟨a, c, b, o, rfl, h1, h2, h3⟩ := h
  exact ⟨a, c, b, o, rfl, h1, fun i hi => ⟨(h2.resolve_left (by omega)).1, (h2.resolve_left (by omega)).2, h3 i hi⟩⟩
theorem sl_of_trod {α H : Type} [Inhabited α] {enc : TypeId × Value → H} {P : Program} {w : World} {base : Nat} {spare : Nat → Bool} {held : Bool} {t e : TypeId} {k fuel : Nat} {sv : Value} {x : DataW H × List MemPlace} {R : World → List Value → α → Prop}
    (ht : P.underlying t = some (.slice e)) (hk : P.cellsOf e = k) (hR : ∀ n cs y, cs.length = k → DataW.trod enc P w base spare held n e cs = some y → ∃ z, R w cs z)
    (h : DataW.trod enc P w base spare held fuel t [sv] = some x) (h0 : 0 < k) : ∃ xs : List α, Sl w k R sv xs := by
  rcases Go.Deep.open_slice ht h with ⟨hcs, _⟩ | ⟨a, len, cap, m, n, D, Pl, hcs, hb, hl, hm, hmm, rfl, hx⟩
  · simp only [List.cons.injEq, and_true] at hcs
    subst hcs
    exact ⟨[], sl_nil w k R⟩
  · simp only [List.cons.injEq, and_true] at hcs
    subst hcs
    have hlm : len ≤ m := by rw [hmm]; split <;> omega
    rw [hk] at hx
    have each : ∀ i, i < len → ∃ q : List Value × α, q.1.length = k ∧ R w q.1 q.2 ∧ ∀ j, j < k → w.cell? ((a.add (i * k)).add j) = q.1[j]? := fun i hi => by
      obtain ⟨cs', h1, h2⟩ := hx i (by omega)
      obtain ⟨_, g2, g3⟩ := World.cells?_some h1
      obtain ⟨z, hz⟩ := hR _ _ _ g2 h2
      exact ⟨(cs', z), g2, hz, g3⟩
    obtain ⟨f, hf⟩ := Go.Deep.choose_lt each
    have hs : len = 0 ∨ a.spot = none := by
      rcases Nat.eq_zero_or_pos len with h | h
      · exact Or.inl h
      · right
        obtain ⟨g1, g2, g3⟩ := hf 0 h
        have h1 := g3 0 h0
        rw [List.getElem?_eq_getElem (by omega)] at h1
        have ha : ((a.add (0 * k)).add 0) = a := by simp [Addr.add]
        rw [ha] at h1
        exact World.cell?_spot h1
    refine ⟨(List.range len).map fun i => (f i).2, some a, cap, a.block, a.off, by simp, by simp only [List.length_map, List.length_range]; unfold maxLen at hm; omega, ?_, fun i hi => ?_⟩
    · rcases hs with h | h
      · left; simp [h]
      · rcases Nat.eq_zero_or_pos len with hz | hz
        · left; simp [hz]
        · right
          refine ⟨by cases a; simp only at h; subst h; rfl, ?_⟩
          obtain ⟨g1, g2, g3⟩ := hf 0 hz
          have h1 := g3 0 h0
          rw [List.getElem?_eq_getElem (by omega)] at h1
          have ha : ((a.add (0 * k)).add 0) = a := by simp [Addr.add]
          rw [ha] at h1
          exact block_lt_of_cell h1
    · have hi' : i < len := by simpa using hi
      obtain ⟨g1, g2, g3⟩ := hf i hi'
      refine ⟨(f i).1, g1, by simpa using g2, fun j v hv => ?_⟩
      have hj : j < k := by rw [← g1]; exact (List.getElem?_eq_some_iff.1 hv).1
      have h1 := g3 j hj
      rw [hv] at h1
      have hsp : a.spot = none := by
        rcases hs with h | h
        · omega
        · exact h
      cases a
      simp only at hsp
      subst hsp
      rw [Go.Addr.add_mid, Go.Addr.add_mid] at h1
      exact h1
end Go.Proofs.Ytffcfcgkpebdoaa
namespace Go.Proofs.Ytffcfcgkpebdoaa
open Go.RowKit
set_option linter.unusedVariables false
def OwnC (w : World) (B : Nat) (e : TypeId) (k : Nat) (v : Value) (css : List (List Value)) : Prop := w.ownsRow B e k v css.length css.flatten ∧ ∀ c ∈ css, c.length = k
theorem ownC_nil (w : World) (B : Nat) (e : TypeId) (k : Nat) : OwnC w B e k (.slice none 0 0) [] := ⟨World.ownsRow_nil w B e k, fun c hc => by simp at hc⟩
section
variable {w w' : World} {B p q : Nat} {e : TypeId} {k : Nat} {v : Value} {css : List (List Value)}
theorem OwnC.lt (h : OwnC w B e k v css) {g : Nat} (hg : v.ownBlock = some g) : B ≤ g ∧ g < w.heap.size := World.ownsRow.lt h.1 g hg
theorem OwnC.same (h : OwnC w B e k v css) (hs : ∀ g, v.ownBlock = some g → w'.heap[g]? = w.heap[g]?) : OwnC w' B e k v css := by
  refine ⟨⟨h.1.1, ?_⟩, h.2⟩
  rcases h.1.2 with hn | ⟨g, cap, cur, rfl, hb, hgg, rest⟩
  · exact .inl hn
  · exact .inr ⟨g, cap, cur, rfl, hb, by rw [hs g rfl]; exact hgg, rest⟩
theorem OwnC.keep (h : OwnC w B e k v css) (hb : Below w.heap.size w w') : OwnC w' B e k v css := h.same fun g hg => hb.block g (h.lt hg).2
end
theorem flat_at (k : Nat) : ∀ (css : List (List Value)) (h : ∀ c ∈ css, c.length = k) (i : Nat) (hi : i < css.length) (j : Nat) (hj : j < k), css.flatten[i * k + j]? = css[i][j]?
  | [], _, i, hi, _, _ => absurd hi (by simp)
  | c :: css, h, 0, hi, j, hj => by
    have hc : c.length = k := h c (by simp)
    rw [List.flatten_cons, List.getElem?_append_left (by omega)]
    simp
  | c :: css, h, i + 1, hi, j, hj => by
    have hc : c.length = k := h c (by simp)
    have e : (i + 1) * k = i * k + k := Nat.succ_mul i k
    rw [List.flatten_cons, List.getElem?_append_right (by omega)]
    have e2 : (i + 1) * k + j - c.length = i * k + j := by omega
    rw [e2, flat_at k css (fun x hx => h x (by simp [hx])) i (by simpa using hi) j hj]
    simp
theorem OwnC.sl {α : Type} {R : World → List Value → α → Prop} {w : World} {B : Nat} {e : TypeId} {k : Nat} {v : Value} {css : List (List Value)} {xs : List α} (h : OwnC w B e k v css) (hl : css.length = xs.length)
    (hR : ∀ i (h1 : i < css.length) (h2 : i < xs.length), R w css[i] xs[i]) : Sl w k R v xs := by
  rcases h.1.2 with ⟨rfl, h0⟩ | ⟨g, cap, cur, rfl, hB, hg, hn, hm, hs, ht⟩
  · have : xs = [] := List.eq_nil_of_length_eq_zero (by omega)
    subst this
    exact sl_nil w k R
  · refine ⟨some ⟨g, 0, none⟩, cap, g, 0, by rw [hl], by rw [← hl]; unfold maxLen at hm; omega, Or.inr ⟨rfl, (Array.getElem?_eq_some_iff.1 hg).1⟩, fun i hi => ?_⟩
    have hi' : i < css.length := by omega
    have hc : css[i].length = k := h.2 _ (List.getElem_mem hi')
    refine ⟨css[i], hc, hR i hi' hi, fun j u hj => ?_⟩
    have hjk : j < k := by rw [← hc]; exact (List.getElem?_eq_some_iff.1 hj).1
    rw [cell_of_row w g _ cur e (0, 0) hg]
    have e1 := flat_at k css h.2 i hi' j hjk
    rw [hj, ← ht] at e1
    have hlt : i * k + j < css.length * k := by
      have : (i + 1) * k ≤ css.length * k := Nat.mul_le_mul_right k (by omega)
      rw [Nat.succ_mul] at this
      omega
    rw [List.getElem?_take_of_lt hlt, Array.getElem?_toList] at e1
    simpa using e1
section
variable {ops : Array Oper} {rest : List Oper} {o : Oper} {a : Act} {w : World} {Q : Exit → Act → World → Prop}
theorem wl_appC (t e : TypeId) (k : Nat) (z : Value) (ht : Try.prog.underlying t = some (.slice e)) (hi : (Try.prog.info? e).map (fun i => (i.zero, i.size, decide (i.bytes ≤ 1000))) = some (some z, k, true)) (hz : z.cells.size = k) (hk : 0 < k)
    (s x : Operand) (ho : o.op = .call { callee := .builtin .append, args := #[s, x], argTypes := #[t, t] }) (hgd : o.guard = none)
    (B : Nat) (v : Value) (hs : a.eval s = v) (css : List (List Value)) (hown : OwnC w B e k v css) (g c : Nat) (cs : Array Value) (t' : TypeId) (hx : a.eval x = .slice (some ⟨g, 0, none⟩) 1 c) (hB : Blk w g cs t') (hc : cs.size = k) (h1 : cs.all (·.oneCell') = true)
    (hn : css.length ≤ 1000000) (hBw : B ≤ w.heap.size)
    (h : ∀ v' w', OwnC w' B e k v' (css ++ [cs.toList]) → Below B w w' → w.grownBy w' v.ownBlock → (v'.ownBlock = v.ownBlock ∨ v'.ownBlock = some w.heap.size) → wpList Try.prog ops Q rest (a.put o.dst v') w') : wpList Try.prog ops Q (o :: rest) a w := by
  obtain ⟨i0, hi, h2⟩ := Option.map_eq_some_iff.1 hi
  have hz0 : i0.zero = some z := congrArg (·.1) h2
  have hz1 : i0.size = k := congrArg (·.2.1) h2
  have hz2 : i0.bytes ≤ 1000 := by simpa using congrArg (·.2.2) h2
  refine wpList_append_own_at w hgd s x t ho B e i0 z k i0.bytes ht hi hz0 hz1 rfl hz hk v css.length css.flatten hs hown.1 ⟨g, 0, none⟩ 1 c cs.toList hx (by rw [Array.length_toList, hc, Nat.one_mul]) ?_ ?_ ?_ ?_ hBw ?_
  · intro j u hj
    rw [Addr.add_mid, Nat.zero_add, hB.cell]
    simpa using hj
  · intro u hu
    exact Array.all_eq_true_iff_forall_mem.1 h1 u (by simpa using hu)
  · unfold maxLen; omega
  · have : (css.length + 1) * i0.bytes ≤ 1000001 * 1000 := Nat.mul_le_mul (by omega) hz2
    omega
  · intro v' w' h3 h4 _ h6
    refine h v' w' ⟨?_, ?_⟩ ⟨h4.os, h4.tape, h4.output, h4.size, fun i hi => h4.block i (by omega) (by
      intro e
      have := (World.ownsRow.lt hown.1 i e.symm).1
      omega)⟩ h4 h6
    · rw [List.length_append, List.flatten_append]
      simpa using h3
    · intro c hc2
      rcases List.mem_append.1 hc2 with hc2 | hc2
      · exact hown.2 c hc2
      · simp only [List.mem_singleton] at hc2
        rw [hc2, Array.length_toList, hc]
end
theorem OwnC.slice {w : World} {B : Nat} {e : TypeId} {k : Nat} {v : Value} {css : List (List Value)} (h : OwnC w B e k v css) : ∃ a c, v = .slice a css.length c := by
  rcases h.1.2 with ⟨rfl, h0⟩ | ⟨g, cap, cur, rfl, _⟩
  · exact ⟨none, 0, by rw [h0]⟩
  · exact ⟨_, cap, rfl⟩
theorem OwnC.gone {w w' : World} {B q : Nat} {e : TypeId} {k : Nat} {v : Value} {css : List (List Value)} (h : OwnC w B e k v css) (hb : But q q w w') (hq : ∀ g, v.ownBlock = some g → g ≠ q) : OwnC w' B e k v css :=
  h.same fun g hg => hb.block g (h.lt hg).2 (hq g hg) (hq g hg)
theorem Turned.gone {w w' : World} {q : Nat} (h : Turned q w w') : But q q w w' := ⟨h.os, h.tape, h.output, Nat.le_of_eq h.size.symm, fun k _ h1 _ => h.block k h1⟩
structure SzM (w : World) (B M : Nat) : Prop where
  le : M ≤ w.heap.size
theorem SzM.keep {w w' : World} {B M : Nat} (h : SzM w B M) (hb : Below w.heap.size w w') : SzM w' B M := ⟨Nat.le_trans h.le hb.size⟩
theorem SzM.turned {w w' : World} {B M q : Nat} (h : SzM w B M) (hb : Turned q w w') (_ : q < B ∨ M ≤ q) : SzM w' B M := ⟨by rw [hb.size]; exact h.le⟩
def OwnCm (w : World) (B M : Nat) (e : TypeId) (k : Nat) (v : Value) (css : List (List Value)) : Prop := OwnC w B e k v css ∧ ∀ g, v.ownBlock = some g → g < M
section
variable {w w' : World} {B M q : Nat} {e : TypeId} {k : Nat} {v : Value} {css : List (List Value)}
theorem OwnC.m (h : OwnC w B e k v css) : OwnCm w B w.heap.size e k v css := ⟨h, fun g hg => (h.lt hg).2⟩
theorem OwnCm.keep (h : OwnCm w B M e k v css) (hb : Below w.heap.size w w') : OwnCm w' B M e k v css := ⟨h.1.keep hb, h.2⟩
theorem OwnCm.but (h : OwnCm w B M e k v css) (hb : But q q w w') (hq : q < B ∨ M ≤ q) : OwnCm w' B M e k v css :=
  ⟨h.1.gone hb fun g hg => by have := (h.1.lt hg).1; have := h.2 g hg; omega, h.2⟩
theorem OwnCm.turned (h : OwnCm w B M e k v css) (hb : Turned q w w') (hq : q < B ∨ M ≤ q) : OwnCm w' B M e k v css := h.but hb.gone hq
end
section
variable {ops : Array Oper} {rest : List Oper} {o : Oper} {a : Act} {w : World} {Q : Exit → Act → World → Prop}
theorem wl_room (t e : TypeId) (k : Nat) (z : Value) (ht : Try.prog.underlying t = some (.slice e)) (hi : (Try.prog.info? e).map (fun i => (i.zero, i.size, decide (i.bytes ≤ 1000))) = some (some z, k, true))
    (l c : Operand) (ho : o.op = .makeSlice t l c) (hgd : o.guard = none) (n : Int) (hl : a.eval l = .int .i64 0) (hcc : a.eval c = .int .i64 n) (h0 : 0 ≤ n) (hn : n ≤ 1000000) (hz : 0 < z.cells.size)
    (h : ∀ W b, OwnC W w.heap.size e k (.slice (some ⟨b, 0, none⟩) 0 n.toNat) [] → Below w.heap.size w W → wpList Try.prog ops Q rest (a.put o.dst (.slice (some ⟨b, 0, none⟩) 0 n.toNat)) W) : wpList Try.prog ops Q (o :: rest) a w := by
  obtain ⟨i0, hi, h2⟩ := Option.map_eq_some_iff.1 hi
  have hz0 : i0.zero = some z := congrArg (·.1) h2
  have hz1 : i0.size = k := congrArg (·.2.1) h2
  have hz2 : i0.bytes ≤ 1000 := by simpa using congrArg (·.2.2) h2
  refine wpList_plain hgd fun K hK => ?_
  have hr := run_make (P := Try.prog) w t e i0 z ht hi hz0 .i64 .i64 0 n (by omega) h0 (by
    have h3 : (i0.bytes : Int) * n ≤ 1000 * n := Int.mul_le_mul_of_nonneg_right (by omega) h0
    omega) (by omega)
  have hcs : (madeCells z.cells (n.toNat * i0.size)).size = n.toNat * k := by rw [hz1]; simp [madeCells]
  generalize madeCells z.cells (n.toNat * i0.size) = cs at hr hcs
  have := h (w.alloc (.cells cs e)) w.heap.size ⟨⟨by simp, .inr ⟨w.heap.size, n.toNat, cs, rfl, Nat.le_refl _, heap_alloc_new w _, Nat.zero_le _, by unfold maxLen; omega, hcs, by simp⟩⟩, fun c hc => by simp at hc⟩ (bq_alloc (bq_refl w) _)
  unfold Oper.wp execOp
  simp only [ho, hl, hcc, Sem.run_bind, hr, Result.andThen_ok]
  exact hK _ _ this
end
theorem own_strs {w : World} {B : Nat} {e : TypeId} {v : Value} {xs : List ByteArray} (h : OwnC w B e 1 v (xs.map fun x => [Value.string x])) (h0 : 0 < xs.length) :
    ∃ g c, v = .slice (some ⟨g, 0, none⟩) xs.length c ∧ g < w.heap.size ∧ xs.length ≤ c ∧ ∀ (j : Nat) x, xs[j]? = some x → w.cell? ⟨g, 0 + j, none⟩ = some (.string x) := by
  have hs : Sl w 1 (fun _ cs x => cs = [Value.string x]) v xs := h.sl (by simp) fun i h1 h2 => by simp
  rcases h.1.2 with ⟨rfl, hn⟩ | ⟨g, cap, cur, rfl, _, hg, hc, _⟩
  · rw [List.length_map] at hn; omega
  · rw [List.length_map] at hc
    refine ⟨g, cap, by rw [List.length_map], (Array.getElem?_eq_some_iff.1 hg).1, hc, fun j x hj => ?_⟩
    obtain ⟨a, c, b, o, hv, _, hx⟩ := hs.get
    obtain ⟨hj1, hj2⟩ := List.getElem?_eq_some_iff.1 hj
    obtain ⟨ha, _, cs, _, hcs, hr⟩ := hx j hj1
    simp only [Value.slice.injEq] at hv
    rw [ha] at hv
    obtain ⟨hv, _⟩ := hv
    simp only [Option.some.injEq, Addr.mk.injEq, and_true] at hv
    obtain ⟨rfl, rfl⟩ := hv
    have := hr 0 (.string xs[j]) (by rw [hcs]; rfl)
    rw [Nat.mul_one, Nat.add_zero] at this
    rw [this, hj2]
end Go.Proofs.Ytffcfcgkpebdoaa
namespace Go.Proofs.Ytffcfcgkpebdoaa.TG
open B
set_option linter.unusedVariables false
def hd (c n : Nat) : List UInt8 := le 2 (64 * c + min n 63) ++ (if n < 63 then [] else le 4 n)
def one (c : Nat) (b : List UInt8) : List UInt8 := hd c b.length ++ b
theorem hd_len (c n : Nat) : (hd c n).length = if n < 63 then 2 else 6 := by
  unfold hd
  split <;> simp [le_len]
theorem one_len (c : Nat) (b : List UInt8) : (one c b).length = (if b.length < 63 then 2 else 6) + b.length := by
  rw [one, List.length_append, hd_len]
def tagsB (ts : List (Nat × List UInt8)) : List UInt8 := (ts.map fun t => one t.1 t.2).flatten
def listB (ts : List (Nat × List UInt8)) : List UInt8 := tagsB ts ++ [0, 0]
theorem tagsB_nil : tagsB [] = [] := rfl
theorem tagsB_cons (t : Nat × List UInt8) (ts : List (Nat × List UInt8)) : tagsB (t :: ts) = one t.1 t.2 ++ tagsB ts := rfl
theorem tagsB_snoc (ts : List (Nat × List UInt8)) (t : Nat × List UInt8) : tagsB (ts ++ [t]) = tagsB ts ++ one t.1 t.2 := by simp [tagsB]
def body (l : List UInt8) (c n : Nat) : Option (Nat × List UInt8 × List UInt8) := if n ≤ l.length then some (c, l.take n, l.drop n) else none
def take : List UInt8 → Option (Nat × List UInt8 × List UInt8)
  | x :: y :: l =>
    if (x.toNat + 256 * y.toNat) % 64 < 63 then body l ((x.toNat + 256 * y.toNat) / 64) ((x.toNat + 256 * y.toNat) % 64)
    else if 4 ≤ l.length then body (l.drop 4) ((x.toNat + 256 * y.toNat) / 64) (lv (l.take 4)) else none
  | _ => none
theorem take_cc (x y : UInt8) (l : List UInt8) : take (x :: y :: l) = if (x.toNat + 256 * y.toNat) % 64 < 63 then body l ((x.toNat + 256 * y.toNat) / 64) ((x.toNat + 256 * y.toNat) % 64)
    else if 4 ≤ l.length then body (l.drop 4) ((x.toNat + 256 * y.toNat) / 64) (lv (l.take 4)) else none := rfl
theorem lv4 (l : List UInt8) : lv (l.take 4) < 4294967296 := lv_take_lt l 4
theorem le2 (v : Nat) : le 2 v = [UInt8.ofNat (v % 256), UInt8.ofNat (v / 256 % 256)] := rfl
theorem take_one (c : Nat) (b r : List UInt8) (hc : c ≤ 1023) (hb : b.length < 4294967296) : take (one c b ++ r) = some (c, b, r) := by
  have e2 := lv_le 2 (64 * c + min b.length 63) (by rw [show (P2 (8 * 2)) = 65536 from rfl]; omega)
  rw [le2] at e2
  simp only [lv, Nat.mul_zero, Nat.add_zero] at e2
  unfold one hd
  rw [le2, List.append_assoc, List.append_assoc]
  show take (UInt8.ofNat ((64 * c + min b.length 63) % 256) :: UInt8.ofNat ((64 * c + min b.length 63) / 256 % 256) :: ((if b.length < 63 then [] else le 4 b.length) ++ (b ++ r))) = _
  rw [take_cc, e2]
  by_cases h : b.length < 63
  · rw [if_pos h, if_pos (by omega), List.nil_append]
    have e3 : (64 * c + min b.length 63) % 64 = b.length := by omega
    have e4 : (64 * c + min b.length 63) / 64 = c := by omega
    rw [e3, e4, body, if_pos (by simp), List.take_left' rfl, List.drop_left' rfl]
  · rw [if_neg h, if_neg (by omega), if_pos (by simp [le_len])]
    have e4 : (64 * c + min b.length 63) / 64 = c := by omega
    rw [e4, List.take_left' (le_len 4 _), List.drop_left' (le_len 4 _), lv_le 4 _ (by rw [show (P2 (8 * 4)) = 4294967296 from rfl]; exact hb), body, if_pos (by simp), List.take_left' rfl, List.drop_left' rfl]
theorem take_some {l b r : List UInt8} {c : Nat} (h : take l = some (c, b, r)) : c ≤ 1023 ∧ b.length < 4294967296 ∧ (one c b).length + r.length ≤ l.length := by
  match l, h with
  | x :: y :: l, h =>
    have hx := x.toNat_lt
    have hy := y.toNat_lt
    rw [take_cc] at h
    split at h
    · rename_i h1
      unfold body at h
      split at h
      · simp only [Option.some.injEq, Prod.mk.injEq] at h
        obtain ⟨rfl, rfl, rfl⟩ := h
        refine ⟨by omega, by rw [List.length_take]; omega, ?_⟩
        rw [one_len]
        simp only [List.length_take, List.length_drop, List.length_cons]
        split <;> omega
      · cases h
    · split at h
      · unfold body at h
        split at h
        · rename_i h2 h3
          simp only [Option.some.injEq, Prod.mk.injEq] at h
          obtain ⟨rfl, rfl, rfl⟩ := h
          have h4 := lv4 l
          rw [List.length_drop] at h3
          refine ⟨by omega, by rw [List.length_take]; omega, ?_⟩
          rw [one_len]
          simp only [List.length_take, List.length_drop, List.length_cons]
          split <;> omega
        · cases h
      · cases h
  | [], h => cases h
  | [_], h => cases h
def split : Nat → List UInt8 → Except Int (List (Nat × List UInt8) × List UInt8)
  | m, l => match take l with
    | none => .error 2
    | some (c, b, r) =>
      if c = 0 then (if b.length = 0 then .ok ([], r) else .error 3)
      else match m with
        | 0 => .error 7
        | m + 1 => (split m r).map fun p => ((c, b) :: p.1, p.2)
def Fit (t : Nat × List UInt8) : Prop := 1 ≤ t.1 ∧ t.1 ≤ 1023 ∧ t.2.length < 4294967296
theorem split_list (r : List UInt8) : ∀ (ts : List (Nat × List UInt8)) (m : Nat), (∀ t ∈ ts, Fit t) → ts.length ≤ m → split m (listB ts ++ r) = .ok (ts, r)
  | [], m, _, _ => by
    have h : take (listB [] ++ r) = some (0, [], r) := take_one 0 [] r (by omega) (by simp)
    unfold split
    rw [h]
    rfl
  | t :: ts, 0, _, hm => by simp at hm
  | t :: ts, m + 1, hf, hm => by
    obtain ⟨h1, h2, h3⟩ := hf t (by simp)
    have e : listB (t :: ts) ++ r = one t.1 t.2 ++ (listB ts ++ r) := by simp [listB, tagsB_cons]
    unfold split
    rw [e, take_one t.1 t.2 _ h2 h3]
    simp only
    rw [if_neg (by omega), split_list r ts m (fun u hu => hf u (by simp [hu])) (by simpa using hm)]
    rfl
theorem split_ok : ∀ (m : Nat) (l : List UInt8) (ts : List (Nat × List UInt8)) (r : List UInt8), split m l = .ok (ts, r) → (∀ t ∈ ts, Fit t) ∧ ts.length ≤ m ∧ (listB ts).length + r.length ≤ l.length := by
  intro m
  induction m with
  | zero =>
    intro l ts r h
    unfold split at h
    cases ht : take l with
    | none => rw [ht] at h; cases h
    | some q =>
      obtain ⟨c, b, r'⟩ := q
      rw [ht] at h
      have hs := take_some ht
      simp only at h
      split at h
      · split at h
        · simp only [Except.ok.injEq, Prod.mk.injEq] at h
          obtain ⟨rfl, rfl⟩ := h
          refine ⟨fun t ht => by simp at ht, by simp, ?_⟩
          rw [one_len] at hs
          simp only [listB, tagsB_nil, List.nil_append, List.length_cons, List.length_nil]
          split at hs <;> omega
        · cases h
      · cases h
  | succ m ih =>
    intro l ts r h
    unfold split at h
    cases ht : take l with
    | none => rw [ht] at h; cases h
    | some q =>
      obtain ⟨c, b, r'⟩ := q
      rw [ht] at h
      have hs := take_some ht
      simp only at h
      split at h
      · split at h
        · simp only [Except.ok.injEq, Prod.mk.injEq] at h
          obtain ⟨rfl, rfl⟩ := h
          refine ⟨fun t ht => by simp at ht, by simp, ?_⟩
          rw [one_len] at hs
          simp only [listB, tagsB_nil, List.nil_append, List.length_cons, List.length_nil]
          split at hs <;> omega
        · cases h
      · rename_i hc
        cases hq : split m r' with
        | error e => rw [hq] at h; cases h
        | ok p =>
          rw [hq] at h
          obtain ⟨ts', r''⟩ := p
          simp only [Except.map, Except.ok.injEq, Prod.mk.injEq] at h
          obtain ⟨rfl, rfl⟩ := h
          obtain ⟨g1, g2, g3⟩ := ih r' ts' r'' hq
          refine ⟨fun t ht => ?_, by simpa using g2, ?_⟩
          · rcases List.mem_cons.1 ht with rfl | ht
            · exact ⟨by simp only; omega, hs.1, hs.2.1⟩
            · exact g1 t ht
          · have e : listB ((c, b) :: ts') = one c b ++ listB ts' := by simp [listB, tagsB_cons]
            rw [e, List.length_append]
            omega
theorem split_err : ∀ (m : Nat) (l : List UInt8) (e : Int), split m l = .error e → e = 2 ∨ e = 3 ∨ e = 7 := by
  intro m
  induction m with
  | zero =>
    intro l e h
    unfold split at h
    cases ht : take l with
    | none => rw [ht] at h; simp only [Except.error.injEq] at h; omega
    | some q =>
      rw [ht] at h
      simp only at h
      split at h
      · split at h
        · cases h
        · simp only [Except.error.injEq] at h; omega
      · simp only [Except.error.injEq] at h; omega
  | succ m ih =>
    intro l e h
    unfold split at h
    cases ht : take l with
    | none => rw [ht] at h; simp only [Except.error.injEq] at h; omega
    | some q =>
      rw [ht] at h
      simp only at h
      split at h
      · split at h
        · cases h
        · simp only [Except.error.injEq] at h; omega
      · cases hq : split m q.2.2 with
        | error e' =>
          rw [hq] at h
          simp only [Except.map, Except.error.injEq] at h
          exact h ▸ ih _ _ hq
        | ok p => rw [hq] at h; cases h
end Go.Proofs.Ytffcfcgkpebdoaa.TG
namespace Go.Proofs.Ytffcfcgkpebdoaa
open Go.RowKit Go.WideShapes Go.ChangeShapes
set_option linter.unusedVariables false
def tagC (t : Int × ByteArray) : List Value := [.int .i64 t.1, .string t.2]
def TagR (w : World) (cs : List Value) (t : Int × ByteArray) : Prop := cs = tagC t ∧ -9223372036854775808 ≤ t.1 ∧ t.1 ≤ 9223372036854775807
theorem tag_lasts : Lasts TagR := fun w w' cs x h _ => h
def Tags (w : World) (v : Value) (ts : List (Int × ByteArray)) : Prop := Sl w 2 TagR v ts
def toL (ts : List (Int × ByteArray)) : List (Nat × List UInt8) := ts.map fun t => (t.1.toNat, t.2.data.toList)
theorem toL_len (ts : List (Int × ByteArray)) : (toL ts).length = ts.length := by simp [toL]
def ofL (ts : List (Nat × List UInt8)) : List (Int × ByteArray) := ts.map fun t => ((t.1 : Int), bs t.2)
theorem ofL_len (ts : List (Nat × List UInt8)) : (ofL ts).length = ts.length := by simp [ofL]
theorem ofL_toL {ts : List (Int × ByteArray)} (h : ∀ t ∈ ts, 0 ≤ t.1) : ofL (toL ts) = ts := by
  induction ts with
  | nil => rfl
  | cons t ts ih =>
    have h0 := h t (by simp)
    have e : ((t.1.toNat : Int), bs t.2.data.toList) = t := by
      rw [bs_of]
      exact Prod.ext (by simp only; omega) rfl
    show ((t.1.toNat : Int), bs t.2.data.toList) :: ofL (toL ts) = _
    rw [e, ih fun u hu => h u (by simp [hu])]
theorem toL_ofL (ts : List (Nat × List UInt8)) : toL (ofL ts) = ts := by
  induction ts with
  | nil => rfl
  | cons t ts ih =>
    show (((t.1 : Nat) : Int).toNat, (bs t.2).data.toList) :: toL (ofL ts) = _
    rw [ih, bs_data, Int.toNat_natCast]
def OwnG (w : World) (B : Nat) (e : TypeId) (v : Value) (ts : List (Int × ByteArray)) : Prop := OwnC w B e 2 v (ts.map tagC) ∧ ∀ t ∈ ts, -9223372036854775808 ≤ t.1 ∧ t.1 ≤ 9223372036854775807
theorem ownG_nil (w : World) (B : Nat) (e : TypeId) : OwnG w B e (.slice none 0 0) [] := ⟨ownC_nil w B e 2, fun c hc => by simp at hc⟩
theorem OwnG.tags {w : World} {B : Nat} {e : TypeId} {v : Value} {ts : List (Int × ByteArray)} (h : OwnG w B e v ts) : Tags w v ts :=
  h.1.sl (by simp) fun i h1 h2 => ⟨by simp, h.2 _ (List.getElem_mem h2)⟩
theorem OwnG.snoc {w' : World} {B : Nat} {e : TypeId} {v' : Value} {ts : List (Int × ByteArray)} {t : Int × ByteArray} (h : ∀ u ∈ ts, -9223372036854775808 ≤ u.1 ∧ u.1 ≤ 9223372036854775807) (ht : -9223372036854775808 ≤ t.1 ∧ t.1 ≤ 9223372036854775807)
    (hc : OwnC w' B e 2 v' (ts.map tagC ++ [[.int .i64 t.1, .string t.2]])) : OwnG w' B e v' (ts ++ [t]) := by
  refine ⟨by rw [List.map_append]; exact hc, fun u hu => ?_⟩
  rcases List.mem_append.1 hu with hu | hu
  · exact h u hu
  · simp only [List.mem_singleton] at hu
    exact hu ▸ ht
theorem Tags.at {w : World} {ts : List (Int × ByteArray)} {v : Value} (h : Tags w v ts) : ∃ a c b o, v = .slice a ts.length c ∧ ts.length ≤ 9223372036854775807 ∧
    ∀ (i : Nat) (x : Int) (s : ByteArray), ts[i]? = some (x, s) → a = some ⟨b, o, none⟩ ∧ b < w.heap.size ∧ (-9223372036854775808 ≤ x ∧ x ≤ 9223372036854775807) ∧ w.rangeAt b (o + i * 2) [.int .i64 x, .string s] := by
  obtain ⟨a, c, b, o, hv, hl, hx⟩ := h.get
  refine ⟨a, c, b, o, hv, hl, fun i x s hi => ?_⟩
  obtain ⟨h1, h2⟩ := List.getElem?_eq_some_iff.1 hi
  obtain ⟨ha, hb, cs, _, ⟨hcs, g1, g2⟩, hr⟩ := hx i h1
  rw [h2] at hcs g1 g2
  rw [hcs] at hr
  exact ⟨ha, hb, ⟨g1, g2⟩, hr⟩
theorem take_snoc {α : Type} (l : List α) (k : Nat) (x : α) (h : l[k]? = some x) : l.take (k + 1) = l.take k ++ [x] := by rw [List.take_add_one, h]; rfl
section
variable {H : Type} {enc : TypeId × Value → H} {w : World} {base : Nat} {spare : Nat → Bool} {held : Bool}
theorem cells12i : Try.prog.cellsOf 3 = 1 := by kernel_rfl
theorem cells12s : Try.prog.cellsOf 9 = 1 := by kernel_rfl
theorem cells12r : Try.prog.cellsOf 23 = 2 := by kernel_rfl
theorem tags_of {n : Nat} {sv : Value} {y : DataW H × List MemPlace} (h : DataW.trod enc Try.prog w base spare held n 33 [sv] = some y) : ∃ ts, Tags w sv ts :=
  sl_of_trod Try.underlying33 cells12r (fun n cs y hl h => by
    obtain ⟨y0, y1, m, _, _, g0, g1⟩ := trod_struct2 Try.underlying23 h
    match cs, hl with
    | [c0, c1], _ =>
      rw [cells12i] at g0
      rw [cells12s] at g1
      obtain ⟨z, hz, _, hw⟩ := DataW.trod_int Try.underlying3 g0
      obtain ⟨s, hs, _, _⟩ := DataW.trod_string Try.underlying9 g1
      have e0 : c0 = .int .i64 z := by simpa using hz
      have e1 : c1 = .string s := by simpa using hs
      exact ⟨(z, s), by rw [e0, e1]; rfl, bd64 hw⟩) h (by omega)
end
end Go.Proofs.Ytffcfcgkpebdoaa
namespace Go.Proofs.Ytffcfcgkpebdoaa
open Go.RowKit
set_option linter.unusedVariables false
theorem islittle_yes (n : Int) (w : World) (h0 : 1 ≤ n) (h1 : n ≤ 4) : Calls Try.prog 30 #[.int .i64 n] w fun e w' => e = .returned (.bool true) ∧ w = w' :=
  (islittle_any n w).mono fun e w' ⟨he, hw⟩ => ⟨by rw [he]; simp; omega, hw⟩
theorem islittle_no (n : Int) (w : World) (h : n < 1 ∨ 4 < n) : Calls Try.prog 30 #[.int .i64 n] w fun e w' => e = .returned (.bool false) ∧ w = w' :=
  (islittle_any n w).mono fun e w' ⟨he, hw⟩ => ⟨by rw [he]; simp; omega, hw⟩
theorem little_post {Q : Ending → World → Prop} {a : Act} {W : World} {g : Nat} {x y u v : Value} (hbox : Box W g x y) (h4 : a.tmps[4]?.getD undef = u) (h5 : a.tmps[5]?.getD undef = .pointer (some ⟨g, 0, none⟩)) (h6 : a.tmps[6]?.getD undef = v)
    (hd : a.defers = []) (hQ : Q (.returned (.tuple #[u, .agg #[x, y], v])) W) : bodyPost Try.prog Try.f25 Q Exit.ret a W :=
  bodyPost_ret (v := .tuple #[u, .agg #[x, y], v]) (by simp [results, Try.results25, go_sem, h4, h5, h6, hbox.1, hbox.2.1]) hd hQ
theorem little_bad (s : ByteArray) (a n : Int) (w : World) (h : n < 1 ∨ 4 < n) :
    Calls Try.prog 25 #[.agg #[.string s, .int .i64 a], .int .i64 n] w fun e w' => e = .returned (errR 1) ∧ Below w.heap.size w w' := by
  have H := Lib.hid h
  clear h
  go_enter Try.func25, Try.ntmps25
  go_wp2_with fail
  refine (islittle_no n _ H.out).mono ?_
  rintro e w1 ⟨rfl, rfl⟩
  go_wp2_with fail
  exact bodyPost_ret (v := errR 1) (by simp [results, Try.results25, go_sem, errR]) rfl ⟨rfl, bq_alloc (bq_alloc (bq_refl w) _) _⟩
def LiRel (t : ByteArray) (v i : Value) : Prop := ∃ k x : Nat, k ≤ t.size ∧ i = .int .i64 k ∧ v = .int .i64 (x : Int) ∧ x = B.lv (t.data.toList.take k)
theorem or_shl (x k : Nat) (c : UInt8) (hk : k ≤ 3) (hx : x < B.P2 (8 * k)) : bits .or .i64 (x : Int) (wrap64 (wrap64 (c.toNat : Int) * 2 ^ (8 * k))) = ((x + c.toNat * B.P2 (8 * k) : Nat) : Int) := by
  have hc := c.toNat_lt
  have hp : B.P2 (8 * k) ≤ 16777216 := B.P2_le (b := 24) (by omega)
  have hm : c.toNat * B.P2 (8 * k) ≤ 256 * 16777216 := Nat.mul_le_mul (by omega) hp
  rw [P2_cast, i64_id (c.toNat : Int) (by omega) (by omega), show (c.toNat : Int) * (B.P2 (8 * k) : Int) = ((c.toNat * B.P2 (8 * k) : Nat) : Int) by push_cast; rfl, i64_id _ (by omega) (by omega)]
  have hj := nat_join (8 * k) (c.toNat * B.P2 (8 * k)) x (Nat.mul_mod_left _ _) hx
  rw [i64_or_nat _ _ (by omega) (by omega), Nat.or_comm, hj, Nat.add_comm]
set_option maxHeartbeats 1000000 in
theorem little_core (s t u : ByteArray) (a n A E : Int) (w : World) (h0 : 1 ≤ n) (h1 : n ≤ 4) (ht : t.size ≤ 4)
    (HP : Hid (∀ w, Calls Try.prog 26 #[.agg #[.string s, .int .i64 a], .int .i64 n] w fun e w' => e = .returned (.tuple #[.string t, .agg #[.string u, .int .i64 A], .int .i64 E]) ∧ Below w.heap.size w w')) :
    Calls Try.prog 25 #[.agg #[.string s, .int .i64 a], .int .i64 n] w fun e w' => e = .returned (.tuple #[.int .i64 (B.lv t.data.toList : Int), .agg #[.string u, .int .i64 A], .int .i64 E]) ∧ Below w.heap.size w w' := by
  go_enter Try.func25, Try.ntmps25
  go_wp2_with fail
  refine (islittle_yes n _ h0 h1).mono ?_
  rintro e w1 ⟨rfl, rfl⟩
  go_wp2_with fail
  refine (HP.out _).mono ?_
  rintro e w1 ⟨rfl, hb⟩
  obtain ⟨⟨c0, c1, f0, f1, cz⟩, ⟨d0, d1, g0, g1, hz⟩, H⟩ := box2_kept hb
  have H1 := Lib.hid H
  clear hb H
  go_wp2_with fail
  have BN := box_new w1 (.string u) (.int .i64 A) 52
  have BR := Box.alloc ⟨d0, d1, g0, g1, hz⟩ (.cells #[.string u, .int .i64 A] 52)
  have HB := Lib.hid (bq_alloc H1.out (.cells #[.string u, .int .i64 A] 52))
  generalize w1.alloc (.cells #[.string u, .int .i64 A] 52) = W at BN BR HB ⊢
  have ne1 : ¬ w.heap.size + 1 = w1.heap.size := by omega
  have ne2 : ¬ w1.heap.size = w.heap.size + 1 := by omega
  obtain ⟨p0, p1, _, _, _⟩ := BN
  obtain ⟨q0, q1, k0, k1, kz⟩ := BR
  clear c0 c1 f0 f1 cz d0 d1 g0 g1 H1
  go_loop [10, 25] (fun v i => LiRel t v i) (fun _ i => t.size - (intOf i).toNat)
  case atStart => exact ⟨0, 0, by omega, rfl, rfl, rfl⟩
  case round =>
    obtain ⟨k, x, hk, rfl, rfl, hx⟩ := hrel
    have hx2 : x < B.P2 (8 * k) := by rw [hx]; exact B.lv_take_lt _ _
    have hx3 : x < B.P2 32 := Nat.lt_of_lt_of_le hx2 (B.P2_le (by omega))
    have hx4 : x < 4294967296 := hx3
    have HX := Lib.hid hx
    have HX2 := Lib.hid hx2
    clear hx hx2 hx3
    by_cases hlt : k < t.size
    · have HO := Lib.hid (or_shl x k t[k] (by omega) HX2.out)
      have hstep := B.lv_take_succ t.data.toList k (by rw [bytes_length]; omega)
      rw [← HX.out, ← bytes_getElem t k hlt] at hstep
      have HS := Lib.hid hstep
      clear hstep
      go_wp2
      go_round
      case rel => exact ⟨k + 1, _, by omega, by go_num, by rw [HO.out], HS.out.symm⟩
      case measure => simp [intOf]; omega
    · obtain rfl : k = t.size := by omega
      have HL : Hid (B.lv t.data.toList = x) := Lib.hid (by rw [HX.out, B.lv_take_all _ _ (by rw [bytes_length]; omega)])
      go_wp2_with fail
      go_region_held3 (fun w' => w'.cell? ⟨w1.heap.size, 0, none⟩ = some (.string u) ∧ w'.cell? ⟨w1.heap.size, 1, none⟩ = some (.int .i64 A)) (go_keep) (fail)
      all_goals go_wp2
      exact little_post (((Box.drewN ⟨q0, q1, k0, k1, kz⟩ _).set0 _).set1 _) rfl rfl rfl rfl ⟨by rw [HL.out]; rfl, bq_set (bq_set (bq_drewN HB.out _) _ (by simp) _) _ (by simp) _⟩
def liR (s : ByteArray) (a n : Int) : Value := if 1 ≤ n ∧ n ≤ 4 then .tuple #[.int .i64 (B.lv (byB s a n).data.toList : Int), .agg #[.string (byS s a n), .int .i64 (byA s a n)], .int .i64 (byE s.size a n)] else errR 1
theorem byB_size (s : ByteArray) (a n : Int) (h : n ≤ 4) : (byB s a n).size ≤ 4 := by
  unfold byB
  split
  · rw [ByteArray.size_extract]; omega
  · exact Nat.zero_le _
theorem little_any (s : ByteArray) (a n : Int) (w : World) (hs : s.size ≤ 1099511627776) :
    Calls Try.prog 25 #[.agg #[.string s, .int .i64 a], .int .i64 n] w fun e w' => e = .returned (liR s a n) ∧ Below w.heap.size w w' := by
  by_cases h : 1 ≤ n ∧ n ≤ 4
  · rw [liR, if_pos h]; exact little_core s _ _ a n _ _ w h.1 h.2 (byB_size s a n h.2) (Lib.hid fun w => bytes_any s a n w hs)
  · rw [liR, if_neg h]; exact little_bad s a n w (by omega)
end Go.Proofs.Ytffcfcgkpebdoaa
