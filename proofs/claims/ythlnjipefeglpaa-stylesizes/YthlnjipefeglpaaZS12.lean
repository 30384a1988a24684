import Derived.Test.YthlnjipefeglpaaZS10
import Derived.Test.YthlnjipefeglpaaZS11
import Derived.Test.YthlnjipefeglpaaZS9
import Derived.Test.YthlnjipefeglpaaZS6
import Derived.Test.YthlnjipefeglpaaZS8
import Derived.Laws.StructEq
import Derived.Deep.RegionHeld
import Derived.Test.YthlnjipefeglpaaZS5
import Derived.Deep.MidRow
namespace Go.Proofs.Ythlnjipefeglpaa
open Go.RowKit
set_option linter.unusedVariables false
def q65 (a d : Int) : Bool := (a != 65536) || (d != 65536)
def qnz (b c : Int) : Bool := (b != 0) || (c != 0)
def mF2 (a d : Int) : List (Nat × Nat) := if q65 a d = true then [] ++ [(b01 (q65 a d), 1)] ++ F.nums 5 [a, d] else [] ++ [(b01 (q65 a d), 1)]
def mF3 (a b c d : Int) : List (Nat × Nat) := mF2 a d ++ [(b01 (qnz b c), 1)]
def mF4 (a b c d : Int) : List (Nat × Nat) := if qnz b c = true then mF3 a b c d ++ F.nums 5 [b, c] else mF3 a b c d
def matF (a b c d x y : Int) : List (Nat × Nat) := mF4 a b c d ++ F.nums 5 [x, y]
theorem nums2_len (h : Nat) (x y : Int) : F.len (F.nums h [x, y]) = h + 2 * mxW [x, y] := F.nums_len h [x, y]
structure MatFacts (a b c d x y : Int) : Prop where
  o1 : F.ok ([] ++ [(b01 (q65 a d), 1)])
  l1 : F.len ([] ++ [(b01 (q65 a d), 1)]) = 1
  o2 : F.ok (mF2 a d)
  l2 : F.len (mF2 a d) ≤ 54
  o3 : F.ok (mF3 a b c d)
  l3 : F.len (mF3 a b c d) ≤ 55
  o4 : F.ok (mF4 a b c d)
  l4 : F.len (mF4 a b c d) ≤ 108
  o5 : F.ok (matF a b c d x y)
  l5 : F.len (matF a b c d x y) ≤ 157
  w1 : mxW [a, d] ≤ 24
  w2 : mxW [b, c] ≤ 24
  w3 : mxW [x, y] ≤ 22
  fit : I64 a ∧ I64 b ∧ I64 c ∧ I64 d ∧ I64 x ∧ I64 y
theorem nums2_ok {x y : Int} (h : mxW [x, y] ≤ 24) (hx : I64 x) (hy : I64 y) : F.ok (F.nums 5 [x, y]) :=
  F.nums_ok (Nat.lt_of_le_of_lt h (by decide)) (by omega) (i64_2 hx hy)
theorem matFacts {a b c d x y : Int} (h : matOk a b c d x y = true) : MatFacts a b c d x y := by
  obtain ⟨w1, w2, w3, fa, fb, fc, fd, fx, fy⟩ := mat_wd h
  have o1 : F.ok ([] ++ [(b01 (q65 a d), 1)]) := F.ok_one (b01_lt _)
  have l1 : F.len ([] ++ [(b01 (q65 a d), 1)]) = 1 := rfl
  have n1 := nums2_len 5 a d
  have n2 := nums2_len 5 b c
  have n3 := nums2_len 5 x y
  have o2 : F.ok (mF2 a d) := by
    unfold mF2
    split
    · exact F.ok_app o1 (nums2_ok w1 fa fd)
    · exact o1
  have l2 : F.len (mF2 a d) ≤ 54 := by
    unfold mF2
    split
    · rw [F.len_app, l1]; omega
    · rw [l1]; omega
  have o3 : F.ok (mF3 a b c d) := F.ok_app o2 (F.ok_one (b01_lt _))
  have l3 : F.len (mF3 a b c d) ≤ 55 := by unfold mF3; rw [F.len_app, F.bit_len]; omega
  have o4 : F.ok (mF4 a b c d) := by
    unfold mF4
    split
    · exact F.ok_app o3 (nums2_ok w2 fb fc)
    · exact o3
  have l4 : F.len (mF4 a b c d) ≤ 108 := by
    unfold mF4
    split
    · rw [F.len_app]; omega
    · omega
  have l5 : F.len (matF a b c d x y) ≤ 157 := by unfold matF; rw [F.len_app]; omega
  exact ⟨o1, l1, o2, l2, o3, l3, o4, l4, F.ok_app o4 (nums2_ok (by omega) fx fy), l5, w1, w2, w3, fa, fb, fc, fd, fx, fy⟩
theorem numbers2_put (fs : List (Nat × Nat)) (x y : Int) (W : World) (g : Nat) (h : F.ok fs) (hl : F.len fs ≤ 1000) (hw : mxW [x, y] ≤ 24) (hx : I64 x) (hy : I64 y) (hB : Blk W g (iA [x, y]) 3) :
    Calls Try.prog 68 #[.agg (wrA fs), .int .i64 5, .slice (some ⟨g, 0, none⟩) 2 2] W fun e w' => e = .returned (.agg (wrA (fs ++ F.nums 5 [x, y]))) ∧ Below W.heap.size W w' :=
  putnumbers_any fs 5 [x, y] _ g 0 2 W h (by rw [nums2_len]; omega) (by omega) (Nat.lt_of_le_of_lt hw (by decide)) (by omega) (by simp) (Lib.hid (hB.ints (i64_2 hx hy)))
theorem q65_cases (a d : Int) : (q65 a d = true ∧ ((a != 65536) = true ∨ (a != 65536) = false ∧ (d != 65536) = true)) ∨ (q65 a d = false ∧ ((a != 65536) = false ∧ (d != 65536) = false)) := by
  unfold q65
  cases (a != 65536) <;> cases (d != 65536) <;> simp
theorem qnz_cases (b c : Int) : (qnz b c = true ∧ ((b != 0) = true ∨ (b != 0) = false ∧ (c != 0) = true)) ∨ (qnz b c = false ∧ ((b != 0) = false ∧ (c != 0) = false)) := by
  unfold qnz
  cases (b != 0) <;> cases (c != 0) <;> simp
theorem putmatrix_ok (s : ByteArray) (f a b c d x y : Int) (w : World) (hs : s.size ≤ 1000000) (h : matOk a b c d x y = true) :
    Calls Try.prog 52 #[.agg #[.string s, .int .i64 f], .agg #[.int .i64 a, .int .i64 b, .int .i64 c, .int .i64 d, .int .i64 x, .int .i64 y]] w fun e w' => e = .returned (.tuple #[.agg #[.string (s ++ bs (F.bys (matF a b c d x y))), .int .i64 0], .int .i64 0]) ∧ Below w.heap.size w w' := by
  have m := matFacts h
  obtain ⟨fa, fb, fc, fd, fx, fy⟩ := m.fit
  have HR : Hid (∀ W, Calls Try.prog 25 #[.agg #[.int .i64 a, .int .i64 b, .int .i64 c, .int .i64 d, .int .i64 x, .int .i64 y]] W fun e w' => e = .returned (.bool true) ∧ Below W.heap.size W w') := Lib.hid fun W => by
    have := rightmatrix_any a b c d x y W fa fb fc fd fx fy
    rw [h] at this
    exact this
  have H1 := Lib.hid (fun W => putbit_any [] (q65 a d) W F.ok_nil (by simp [F.len]))
  have H2 : Hid (q65 a d = true → ∀ W g, Blk W g (iA [a, d]) 3 → Calls Try.prog 68 #[.agg (wrA ([] ++ [(b01 (q65 a d), 1)])), .int .i64 5, .slice (some ⟨g, 0, none⟩) 2 2] W fun e w' => e = .returned (.agg (wrA (mF2 a d))) ∧ Below W.heap.size W w') := Lib.hid fun hq W g hB => by
    unfold mF2
    rw [if_pos hq]
    exact numbers2_put _ a d W g m.o1 (by rw [m.l1]; omega) m.w1 fa fd hB
  have E2 : Hid (q65 a d = false → mF2 a d = [] ++ [(b01 (q65 a d), 1)]) := Lib.hid fun hq => by unfold mF2; rw [hq]; rfl
  have H3 := Lib.hid (fun W => putbit_any (mF2 a d) (qnz b c) W m.o2 (by have := m.l2; omega))
  have H4 : Hid (qnz b c = true → ∀ W g, Blk W g (iA [b, c]) 3 → Calls Try.prog 68 #[.agg (wrA (mF2 a d ++ [(b01 (qnz b c), 1)])), .int .i64 5, .slice (some ⟨g, 0, none⟩) 2 2] W fun e w' => e = .returned (.agg (wrA (mF4 a b c d))) ∧ Below W.heap.size W w') := Lib.hid fun hq W g hB => by
    unfold mF4
    rw [if_pos hq]
    exact numbers2_put _ b c W g m.o3 (by have := m.l3; unfold mF3 at this; omega) m.w2 fb fc hB
  have E4 : Hid (qnz b c = false → mF4 a b c d = mF2 a d ++ [(b01 (qnz b c), 1)]) := Lib.hid fun hq => by unfold mF4 mF3; rw [if_neg (by rw [hq]; decide)]
  have H5 : Hid (∀ W0 W g, Below W0.heap.size W0 W → Blk W g (iA [x, y]) 3 → Calls Try.prog 68 #[.agg #[.string (bs (F.bys (mF4 a b c d))), .int .i64 (F.fr (mF4 a b c d) : Int)], .int .i64 5, .slice (some ⟨g, 0, none⟩) 2 2] W fun e w' => e = .returned (.agg #[.string (bs (F.bys (matF a b c d x y))), .int .i64 (F.fr (matF a b c d x y) : Int)]) ∧ Below W0.heap.size W0 w') := Lib.hid fun W0 W g hW hB =>
    (numbers2_put (mF4 a b c d) x y W g m.o4 (by have := m.l4; omega) (by have := m.w3; omega) fx fy hB).mono fun e w' ⟨h1, h2⟩ => ⟨h1, bq_trans hW h2⟩
  have H6 : Hid (∀ W0 W, Below W0.heap.size W0 W → Calls Try.prog 69 #[.agg #[.string s, .int .i64 f], .agg #[.string (bs (F.bys (matF a b c d x y))), .int .i64 (F.fr (matF a b c d x y) : Int)]] W fun e w' => e = .returned (.agg #[.string (s ++ bs (F.bys (matF a b c d x y))), .int .i64 0]) ∧ Below W0.heap.size W0 w') := Lib.hid fun W0 W hW =>
    (behind_any s (bs (F.bys (matF a b c d x y))) f _ W (by omega) (by rw [bs_size, F.bys_len]; have := m.l5; omega)).mono fun e w'' ⟨h1, h2⟩ => ⟨h1, bq_trans hW h2⟩
  rcases q65_cases a d with ⟨e1, p1⟩ | ⟨e1, p1⟩ <;> rcases qnz_cases b c with ⟨e2, p2⟩ | ⟨e2, p2⟩
  · exact putmatrix_11 s _ _ f _ _ a b c d x y _ _ _ _ _ _ w p1 p2 e1 e2 HR H1 H2 E2 H3 H4 E4 H5 H6 (Lib.hid rfl)
  · exact putmatrix_10 s _ _ f _ _ a b c d x y _ _ _ _ _ _ w p1 p2 e1 e2 HR H1 H2 E2 H3 H4 E4 H5 H6 (Lib.hid rfl)
  · exact putmatrix_01 s _ _ f _ _ a b c d x y _ _ _ _ _ _ w p1 p2 e1 e2 HR H1 H2 E2 H3 H4 E4 H5 H6 (Lib.hid rfl)
  · exact putmatrix_00 s _ _ f _ _ a b c d x y _ _ _ _ _ _ w p1 p2 e1 e2 HR H1 H2 E2 H3 H4 E4 H5 H6 (Lib.hid rfl)
end Go.Proofs.Ythlnjipefeglpaa
namespace Go.Proofs.Ythlnjipefeglpaa
open Go.RowKit
set_option linter.unusedVariables false
set_option maxRecDepth 100000
end Go.Proofs.Ythlnjipefeglpaa
namespace Go.Proofs.Ythlnjipefeglpaa
open Go.RowKit
set_option linter.unusedVariables false
set_option maxRecDepth 100000
end Go.Proofs.Ythlnjipefeglpaa
namespace Go.Proofs.Ythlnjipefeglpaa
open Go.RowKit
set_option linter.unusedVariables false
set_option maxRecDepth 100000
end Go.Proofs.Ythlnjipefeglpaa
namespace Go.Proofs.Ythlnjipefeglpaa
open Go.RowKit
set_option linter.unusedVariables false
set_option maxRecDepth 100000
end Go.Proofs.Ythlnjipefeglpaa
namespace Go.Proofs.Ythlnjipefeglpaa
open Go.RowKit
set_option linter.unusedVariables false
set_option maxRecDepth 100000
end Go.Proofs.Ythlnjipefeglpaa
namespace Go.Proofs.Ythlnjipefeglpaa
open Go.RowKit
set_option linter.unusedVariables false
end Go.Proofs.Ythlnjipefeglpaa
namespace Go.Proofs.Ythlnjipefeglpaa
open Go.RowKit
set_option linter.unusedVariables false
set_option maxRecDepth 100000
theorem qRG (a0 a1 a2 a3 b0 b1 b2 b3 : Int) (w : World) : (Op.equalIn 10000 23 (.agg #[.int .i64 a0, .int .i64 a1, .int .i64 a2, .int .i64 a3]) (.agg #[.int .i64 b0, .int .i64 b1, .int .i64 b2, .int .i64 b3])).run Try.prog w = .ok (decide ([a0, a1, a2, a3] = [b0, b1, b2, b3])) w := by
  go_simp
  repeat' split
  all_goals simp_all
theorem qMT (a0 a1 a2 a3 a4 a5 b0 b1 b2 b3 b4 b5 : Int) (w : World) : (Op.equalIn 10000 25 (.agg #[.int .i64 a0, .int .i64 a1, .int .i64 a2, .int .i64 a3, .int .i64 a4, .int .i64 a5]) (.agg #[.int .i64 b0, .int .i64 b1, .int .i64 b2, .int .i64 b3, .int .i64 b4, .int .i64 b5])).run Try.prog w = .ok (decide ([a0, a1, a2, a3, a4, a5] = [b0, b1, b2, b3, b4, b5])) w := by
  go_simp
  repeat' split
  all_goals simp_all
theorem qSP (a0 a1 a2 a3 a4 b0 b1 b2 b3 b4 : Int) (w : World) : (Op.equalIn 10000 65 (.agg #[.int .i64 a0, .int .i64 a1, .int .i64 a2, .int .i64 a3, .int .i64 a4]) (.agg #[.int .i64 b0, .int .i64 b1, .int .i64 b2, .int .i64 b3, .int .i64 b4])).run Try.prog w = .ok (decide ([a0, a1, a2, a3, a4] = [b0, b1, b2, b3, b4])) w := by
  go_simp
  repeat' split
  all_goals simp_all
def strokeOk (x r g b a : Int) : Bool := decide (0 ≤ x) && decide (x < 65536) && rgbaOk r g b a
def by1 (n : Nat) : List UInt8 := [UInt8.ofNat n]
def by2 (n : Nat) : List UInt8 := [UInt8.ofNat (n % 256), UInt8.ofNat (n / 256)]
def liV (s : ByteArray) (a n : Int) : Int := (B.lv (byB s a n).data.toList : Int)
def RS.li (x : RS) (n : Int) : Int := if x.e = 0 then liV x.s x.a n else 0
def RS.liS (x : RS) (n : Int) : RS := if x.e = 0 then ⟨byS x.s x.a n, byA x.s x.a n, byE x.s.size x.a n⟩ else x
theorem RS.liS_size (x : RS) (n : Int) {m : Nat} (h : x.s.size ≤ m) : (x.liS n).s.size ≤ m := by
  unfold RS.liS
  split
  · show (byS _ _ _).size ≤ m
    unfold byS
    split
    · exact h
    · exact Nat.zero_le _
  · exact h
theorem rgV_len8 (s : ByteArray) (a : Int) : (rgV s a).length = 4 := by
  unfold rgV
  split
  · rename_i h
    rw [List.length_map]
    have hb : byE s.size a 4 = 0 → (0 ≤ a ∧ a ≤ 8 * s.size ∧ (0 : Int) ≤ 4) ∧ ¬ ((s.size : Int) - (a + 7) / 8 < 4) := fun h => by
      unfold byE at h
      split at h
      · rename_i hh
        split at h
        · cases h
        · rename_i h2; exact ⟨hh, h2⟩
      · cases h
    obtain ⟨⟨h0, h1, _⟩, h2⟩ := hb h
    have : (byB s a 4).data.toList.length = (byB s a 4).size := by rw [Array.length_toList]; rfl
    rw [this]
    unfold byB
    rw [if_pos h, ByteArray.size_extract]
    have e4 : (4 : Int).toNat = 4 := rfl
    rw [e4]
    omega
  · rfl
def RS.cv (x : RS) : List Int := if x.e = 0 then rgV x.s x.a else [0, 0, 0, 0]
def RS.cvS (x : RS) : RS := if x.e = 0 then ⟨byS x.s x.a 4, byA x.s x.a 4, byE x.s.size x.a 4⟩ else x
def RS.mv (x : RS) : List Int := if x.e = 0 then matV (RS.begP x.s x.a) else [0, 0, 0, 0, 0, 0]
def RS.mvS (x : RS) : RS := if x.e = 0 then matS (RS.begP x.s x.a) else x
end Go.Proofs.Ythlnjipefeglpaa
namespace Go.Proofs.Ythlnjipefeglpaa
open Go.RowKit
set_option linter.unusedVariables false
set_option maxRecDepth 100000
def rgbaL : List Int → Bool
  | [r, g, b, a] => rgbaOk r g b a
  | _ => false
def strokeL : List Int → Bool
  | [x, r, g, b, a] => strokeOk x r g b a
  | _ => false
def stopsFrom (p : Int) : List (List Int) → Bool
  | [] => true
  | s :: st => decide (p ≤ s.getD 0 0) && decide (s.getD 0 0 ≤ 255) && rgbaL (s.drop 1) && stopsFrom (s.getD 0 0) st
def fillOk (F : FV) : Bool :=
  if F.k = 0 then decide (F.m = [0, 0, 0, 0, 0, 0]) && decide (F.sp = 0) && decide (F.id = 0) && decide (F.st.length = 0) && rgbaL F.c
  else if F.k = 64 ∨ F.k = 65 then decide (F.c = [0, 0, 0, 0]) && decide (F.sp = 0) && decide (F.st.length = 0) && decide (0 ≤ F.id) && decide (F.id < 65536) && matOkL F.m
  else if F.k = 16 ∨ F.k = 18 then stopsFrom 0 F.st && decide (F.c = [0, 0, 0, 0]) && decide (F.id = 0) && decide (0 ≤ F.sp) && decide (F.sp < 3) && decide (0 < F.st.length) && decide (F.st.length < 9) && matOkL F.m
  else false
def listsOk (Fs : List FV) (xs : List (List Int)) : Bool := Fs.all fillOk && xs.all strokeL && decide (Fs.length < 16) && decide (xs.length < 16)
theorem allT {α : Type} (f : α → Bool) (zs : List α) (k : Nat) (h : k < zs.length) (h1 : (zs.take k).all f = true) (h2 : f zs[k] = true) : (zs.take (k + 1)).all f = true := by
  rw [List.take_succ_eq_append_getElem h, List.all_append, h1]
  simp [h2]
theorem allF {α : Type} (f : α → Bool) (zs : List α) (k : Nat) (h : k < zs.length) (h2 : f zs[k] = false) : zs.all f = false := by
  rw [List.all_eq_false]
  exact ⟨zs[k], List.getElem_mem h, by rw [h2]; simp⟩
theorem fillC_len {F : FV} (h : F.Fit) (sv : Value) : (fillC F sv).length = 14 := by
  simp [fillC, iL_len, h.c, h.m]
theorem size28f {F : FV} (h : F.Fit) (sv : Value) : (Try.prog.info? 28).map (·.size) = some (fillC F sv).length := by
  rw [fillC_len h]; kernel_rfl
theorem size30f {x : List Int} (h : x.length = 5) : (Try.prog.info? 30).map (·.size) = some (iL x).length := by
  rw [iL_len, h]; kernel_rfl
theorem list5 (l : List Int) (h : l.length = 5) : ∃ a b c d e, l = [a, b, c, d, e] := by
  match l, h with
  | [a, b, c, d, e], _ => exact ⟨a, b, c, d, e, rfl⟩
def RtRel {α : Type} (w : World) (f : α → Bool) (xs : List α) (i : Value) (wr : World) : Prop := ∃ k : Nat, k ≤ xs.length ∧ i = .int .i64 k ∧ (xs.take k).all f = true ∧ Below w.heap.size w wr
end Go.Proofs.Ythlnjipefeglpaa
namespace Go.Proofs.Ythlnjipefeglpaa
open Go.RowKit
set_option linter.unusedVariables false
set_option linter.unusedSimpArgs false
set_option maxRecDepth 100000
section
variable {P : Program} {ops : Array Oper} {rest : List Oper} {o : Oper} {a : Act} {w : World} {Q : Exit → Act → World → Prop}
end
def lastR (p : Int) (l : List (List Int)) : Int := ((l.getLast?).map (·.getD 0 0)).getD p
theorem lastR_snoc (p : Int) (l : List (List Int)) (x : List Int) : lastR p (l ++ [x]) = x.getD 0 0 := by simp [lastR]
theorem stops_snoc (p : Int) (l : List (List Int)) (x : List Int) : stopsFrom p (l ++ [x]) = (stopsFrom p l && (decide (lastR p l ≤ x.getD 0 0) && decide (x.getD 0 0 ≤ 255) && rgbaL (x.drop 1))) := by
  induction l generalizing p with
  | nil => simp [stopsFrom, lastR]
  | cons s l ih =>
    have e : lastR p (s :: l) = lastR (s.getD 0 0) l := by
      cases l with
      | nil => simp [lastR]
      | cons t l => simp [lastR, List.getLast?_cons]
    rw [List.cons_append]
    simp only [stopsFrom, ih, e, Bool.and_assoc]
theorem stops_pre (p : Int) (l m : List (List Int)) (h : stopsFrom p l = false) : stopsFrom p (l ++ m) = false := by
  induction l generalizing p with
  | nil => simp [stopsFrom] at h
  | cons s l ih =>
    rw [List.cons_append]
    simp only [stopsFrom] at h ⊢
    cases h1 : stopsFrom (s.getD 0 0) l
    · rw [ih _ h1]; simp
    · rw [h1, Bool.and_true] at h
      rw [h]; simp
theorem stops_bad (st : List (List Int)) (k : Nat) (h : k < st.length) (h1 : stopsFrom 0 (st.take k) = true) (h2 : (decide (lastR 0 (st.take k) ≤ st[k].getD 0 0) && decide (st[k].getD 0 0 ≤ 255) && rgbaL (st[k].drop 1)) = false) : stopsFrom 0 st = false := by
  have e : st = st.take (k + 1) ++ st.drop (k + 1) := (List.take_append_drop (k + 1) st).symm
  rw [e]
  apply stops_pre
  rw [List.take_succ_eq_append_getElem h, stops_snoc, h1, h2]
  rfl
theorem stops_good (st : List (List Int)) (k : Nat) (h : k < st.length) (h1 : stopsFrom 0 (st.take k) = true) (h2 : (decide (lastR 0 (st.take k) ≤ st[k].getD 0 0) && decide (st[k].getD 0 0 ≤ 255) && rgbaL (st[k].drop 1)) = true) : stopsFrom 0 (st.take (k + 1)) = true := by
  rw [List.take_succ_eq_append_getElem h, stops_snoc, h1, h2]
  rfl
theorem lastR_take (st : List (List Int)) (p : Nat) (h : p < st.length) : lastR 0 (st.take (p + 1)) = st[p].getD 0 0 := by
  rw [List.take_succ_eq_append_getElem h, lastR_snoc]
end Go.Proofs.Ythlnjipefeglpaa
namespace Go.Proofs.Ythlnjipefeglpaa
open Go.RowKit
set_option linter.unusedVariables false
set_option linter.unusedSimpArgs false
set_option maxRecDepth 100000
def GrRel (w : World) (fb : Nat) (cs : Array Value) (st : List (List Int)) (i n : Value) (wr : World) : Prop := ∃ k : Nat, k ≤ st.length ∧ i = .int .i64 k ∧ stopsFrom 0 (st.take k) = true ∧ Blk wr fb cs 28 ∧ Below w.heap.size w wr
end Go.Proofs.Ythlnjipefeglpaa
namespace Go.Proofs.Ythlnjipefeglpaa
open Go.RowKit
set_option linter.unusedVariables false
set_option maxRecDepth 100000
def smallOk (Fs : List FV) (xs : List (List Int)) : Bool := Fs.all (fun F => decide (F.st.length ≤ 20)) && decide (Fs.length < 30) && decide (xs.length < 30)
def SmRel (Fs : List FV) (i : Value) : Prop := ∃ k : Nat, k ≤ Fs.length ∧ i = .int .i64 k ∧ (Fs.take k).all (fun F => decide (F.st.length ≤ 20)) = true
end Go.Proofs.Ythlnjipefeglpaa
namespace Go.Proofs.Ythlnjipefeglpaa.Det
open Go
set_option linter.unusedVariables false
def Tells (P : Program) (ops : Array Oper) (S : World → Prop) (o : Oper) (v : Value) (a : Act) : Prop :=
  (Region.wanted o (yielded ops a.tmps) = true ∧ ∀ w, S w →
    (∃ w', (execOp a.eval o).run P w = .ok (.value v) w' ∧ S w') ∨
    (∃ f args w', (execOp a.eval o).run P w = .ok (.enter f args) w' ∧ Calls P f args w' fun e w'' => e = .returned v ∧ S w'')) ∨
  (Region.wanted o (yielded ops a.tmps) = false ∧ v = undef)
section
variable {P : Program} {ops : Array Oper} {Q : Exit → Act → World → Prop} {S : World → Prop} {md : Region.Mode}
def wpDet (P : Program) (ops : Array Oper) (Q : Exit → Act → World → Prop) (S : World → Prop) : List Oper → Act → Prop
  | [], a => ∀ w, S w → Q .normal a w
  | o :: rest, a => ∃ v, Tells P ops S o v a ∧ wpDet P ops Q S rest (a.put o.dst v)
def detB (md : Region.Mode) (ops : Array Oper) : Bool :=
  Region.noSelect ops && (List.range ops.size).all fun i => match ops[i]? with
    | none => true
    | some x => (x.after.all fun e => !Region.binds md e || decide (e.on < i)) && (List.range ops.size).all fun j => match ops[j]? with
      | none => true
      | some y => match y.dst with
        | none => true
        | some d => (!(x.looksAt ops).contains d || (decide (j < i) && x.after.any fun e => Region.binds md e && e.on == j) || (decide (i < j) && y.after.any fun e => Region.binds md e && e.on == i)) && (i == j || x.dst != some d)
structure Fit (md : Region.Mode) (ops : Array Oper) : Prop where
  sel : ∀ (j : Nat) (o : Oper) cs b, ops[j]? = some o → o.op ≠ .select cs b
  back : ∀ (i : Nat) (x : Oper), ops[i]? = some x → ∀ e ∈ x.after, Region.binds md e = true → e.on < i
  looks : ∀ (i j : Nat) (x y : Oper) (d : Tmp), ops[i]? = some x → ops[j]? = some y → y.dst = some d → d ∈ x.looksAt ops → (j < i ∧ ∃ e ∈ x.after, Region.binds md e = true ∧ e.on = j) ∨ (i < j ∧ ∃ e ∈ y.after, Region.binds md e = true ∧ e.on = i)
  once : ∀ (i j : Nat) (x y : Oper) (d : Tmp), ops[i]? = some x → ops[j]? = some y → i ≠ j → y.dst = some d → x.dst ≠ some d
structure At (ops : Array Oper) (a0 : Act) (V : Nat → Value) (D : Nat → Prop) (b : Act) : Prop where
  size : b.tmps.size = a0.tmps.size
  defers : b.defers = a0.defers
  old : ∀ t : Tmp, (∀ (i : Nat) (o : Oper), D i → ops[i]? = some o → o.dst ≠ some t) → b.tmps[t]? = a0.tmps[t]?
  told : ∀ (i : Nat) (o : Oper) (d : Tmp), D i → ops[i]? = some o → o.dst = some d → d < a0.tmps.size → b.tmps[d]? = some (V i)
end
end Go.Proofs.Ythlnjipefeglpaa.Det
namespace Go.Proofs.Ythlnjipefeglpaa.Det
open Go Go.RowKit
set_option linter.unusedVariables false
section
variable {P : Program} {ops : Array Oper} {Q : Exit → Act → World → Prop} {S : World → Prop} {rest : List Oper} {o : Oper} {a : Act}
end
end Go.Proofs.Ythlnjipefeglpaa.Det
namespace Go.Proofs.Ythlnjipefeglpaa
open Go.RowKit
set_option linter.unusedVariables false
set_option linter.unusedSimpArgs false
set_option maxRecDepth 100000
theorem takeB (xs ys : List (List Int)) (k : Nat) (hx : k < xs.length) (hy : k < ys.length) (h : xs.take k = ys.take k) (h2 : xs[k] = ys[k]) : xs.take (k + 1) = ys.take (k + 1) := by
  rw [List.take_succ_eq_append_getElem hx, List.take_succ_eq_append_getElem hy, h, h2]
theorem neB (xs ys : List (List Int)) (k : Nat) (hx : k < xs.length) (hy : k < ys.length) (h2 : xs[k] ≠ ys[k]) : xs ≠ ys := fun h => by
  subst h; exact h2 rfl
def SaRel (w : World) (bp bq : Nat) (ca cb : Array Value) (xs ys : List (List Int)) (i : Value) (wr : World) : Prop := ∃ k : Nat, k ≤ xs.length ∧ i = .int .i64 k ∧ xs.take k = ys.take k ∧ Blk wr bp ca 28 ∧ Blk wr bq cb 28 ∧ Below w.heap.size w wr
def sameF (A B : FV) : Bool := decide (A.k = B.k) && decide (A.c = B.c) && decide (A.m = B.m) && decide (A.sp = B.sp) && decide (A.id = B.id) && decide (A.st = B.st)
end Go.Proofs.Ythlnjipefeglpaa
namespace Go.Proofs.Ythlnjipefeglpaa
open Go.RowKit
set_option linter.unusedVariables false
set_option linter.unusedSimpArgs false
set_option maxRecDepth 100000
theorem FV.same (A B : FV) : sameF A B = true ↔ A = B := by
  obtain ⟨ak, c, m, asp, ast, aid⟩ := A
  obtain ⟨bk, d, n, bsp, bst, bid⟩ := B
  simp only [sameF, Bool.and_eq_true, decide_eq_true_eq, FV.mk.injEq]
  constructor
  · rintro ⟨⟨⟨⟨⟨h1, h2⟩, h3⟩, h4⟩, h5⟩, h6⟩
    exact ⟨h1, h2, h3, h4, h6, h5⟩
  · rintro ⟨h1, h2, h3, h4, h6, h5⟩
    exact ⟨⟨⟨⟨⟨h1, h2⟩, h3⟩, h4⟩, h5⟩, h6⟩
instance : DecidableEq FV := fun A B => decidable_of_iff (sameF A B = true) (FV.same A B)
def SlRel {α : Type} (w : World) (xs ys : List α) (i : Value) (wr : World) : Prop := ∃ k : Nat, k ≤ xs.length ∧ i = .int .i64 k ∧ xs.take k = ys.take k ∧ Below w.heap.size w wr
end Go.Proofs.Ythlnjipefeglpaa
