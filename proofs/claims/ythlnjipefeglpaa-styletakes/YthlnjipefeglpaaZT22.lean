import Derived.Test.YthlnjipefeglpaaZT20
import Derived.Test.YthlnjipefeglpaaZT21
import Derived.Test.YthlnjipefeglpaaZT11
import Derived.Test.YthlnjipefeglpaaZT19
namespace Go.Proofs.Ythlnjipefeglpaa
open Go.RowKit
set_option linter.unusedVariables false
def q65 (a d : Int) : Bool := (a != 65536) || (d != 65536)
def qnz (b c : Int) : Bool := (b != 0) || (c != 0)
def mF2 (a d : Int) : List (Nat × Nat) := if q65 a d = true then [] ++ [(b01 (q65 a d), 1)] ++ F.nums 5 [a, d] else [] ++ [(b01 (q65 a d), 1)]
def mF3 (a b c d : Int) : List (Nat × Nat) := mF2 a d ++ [(b01 (qnz b c), 1)]
def mF4 (a b c d : Int) : List (Nat × Nat) := if qnz b c = true then mF3 a b c d ++ F.nums 5 [b, c] else mF3 a b c d
def matF (a b c d x y : Int) : List (Nat × Nat) := mF4 a b c d ++ F.nums 5 [x, y]
theorem nums2_len (h : Nat) (x y : Int) : F.len (F.nums h [x, y]) = h + 2 * mxW [x, y] := F.nums_len h [x, y]
structure MatFacts (a b c d x y : Int) : Prop where
  o1 : F.ok ([] ++ [(b01 (q65 a d), 1)])
  l1 : F.len ([] ++ [(b01 (q65 a d), 1)]) = 1
  o2 : F.ok (mF2 a d)
  l2 : F.len (mF2 a d) ≤ 54
  o3 : F.ok (mF3 a b c d)
  l3 : F.len (mF3 a b c d) ≤ 55
  o4 : F.ok (mF4 a b c d)
  l4 : F.len (mF4 a b c d) ≤ 108
  o5 : F.ok (matF a b c d x y)
  l5 : F.len (matF a b c d x y) ≤ 157
  w1 : mxW [a, d] ≤ 24
  w2 : mxW [b, c] ≤ 24
  w3 : mxW [x, y] ≤ 22
  fit : I64 a ∧ I64 b ∧ I64 c ∧ I64 d ∧ I64 x ∧ I64 y
theorem nums2_ok {x y : Int} (h : mxW [x, y] ≤ 24) (hx : I64 x) (hy : I64 y) : F.ok (F.nums 5 [x, y]) :=
  F.nums_ok (Nat.lt_of_le_of_lt h (by decide)) (by omega) (i64_2 hx hy)
theorem matFacts {a b c d x y : Int} (h : matOk a b c d x y = true) : MatFacts a b c d x y := by
  obtain ⟨w1, w2, w3, fa, fb, fc, fd, fx, fy⟩ := mat_wd h
  have o1 : F.ok ([] ++ [(b01 (q65 a d), 1)]) := F.ok_one (b01_lt _)
  have l1 : F.len ([] ++ [(b01 (q65 a d), 1)]) = 1 := rfl
  have n1 := nums2_len 5 a d
  have n2 := nums2_len 5 b c
  have n3 := nums2_len 5 x y
  have o2 : F.ok (mF2 a d) := by
    unfold mF2
    split
    · exact F.ok_app o1 (nums2_ok w1 fa fd)
    · exact o1
  have l2 : F.len (mF2 a d) ≤ 54 := by
    unfold mF2
    split
    · rw [F.len_app, l1]; omega
    · rw [l1]; omega
  have o3 : F.ok (mF3 a b c d) := F.ok_app o2 (F.ok_one (b01_lt _))
  have l3 : F.len (mF3 a b c d) ≤ 55 := by unfold mF3; rw [F.len_app, F.bit_len]; omega
  have o4 : F.ok (mF4 a b c d) := by
    unfold mF4
    split
    · exact F.ok_app o3 (nums2_ok w2 fb fc)
    · exact o3
  have l4 : F.len (mF4 a b c d) ≤ 108 := by
    unfold mF4
    split
    · rw [F.len_app]; omega
    · omega
  have l5 : F.len (matF a b c d x y) ≤ 157 := by unfold matF; rw [F.len_app]; omega
  exact ⟨o1, l1, o2, l2, o3, l3, o4, l4, F.ok_app o4 (nums2_ok (by omega) fx fy), l5, w1, w2, w3, fa, fb, fc, fd, fx, fy⟩
theorem numbers2_put (fs : List (Nat × Nat)) (x y : Int) (W : World) (g : Nat) (h : F.ok fs) (hl : F.len fs ≤ 1000) (hw : mxW [x, y] ≤ 24) (hx : I64 x) (hy : I64 y) (hB : Blk W g (iA [x, y]) 3) :
    Calls Try.prog 68 #[.agg (wrA fs), .int .i64 5, .slice (some ⟨g, 0, none⟩) 2 2] W fun e w' => e = .returned (.agg (wrA (fs ++ F.nums 5 [x, y]))) ∧ Below W.heap.size W w' :=
  putnumbers_any fs 5 [x, y] _ g 0 2 W h (by rw [nums2_len]; omega) (by omega) (Nat.lt_of_le_of_lt hw (by decide)) (by omega) (by simp) (Lib.hid (hB.ints (i64_2 hx hy)))
theorem q65_cases (a d : Int) : (q65 a d = true ∧ ((a != 65536) = true ∨ (a != 65536) = false ∧ (d != 65536) = true)) ∨ (q65 a d = false ∧ ((a != 65536) = false ∧ (d != 65536) = false)) := by
  unfold q65
  cases (a != 65536) <;> cases (d != 65536) <;> simp
theorem qnz_cases (b c : Int) : (qnz b c = true ∧ ((b != 0) = true ∨ (b != 0) = false ∧ (c != 0) = true)) ∨ (qnz b c = false ∧ ((b != 0) = false ∧ (c != 0) = false)) := by
  unfold qnz
  cases (b != 0) <;> cases (c != 0) <;> simp
theorem putmatrix_ok (s : ByteArray) (f a b c d x y : Int) (w : World) (hs : s.size ≤ 1000000) (h : matOk a b c d x y = true) :
    Calls Try.prog 52 #[.agg #[.string s, .int .i64 f], .agg #[.int .i64 a, .int .i64 b, .int .i64 c, .int .i64 d, .int .i64 x, .int .i64 y]] w fun e w' => e = .returned (.tuple #[.agg #[.string (s ++ bs (F.bys (matF a b c d x y))), .int .i64 0], .int .i64 0]) ∧ Below w.heap.size w w' := by
  have m := matFacts h
  obtain ⟨fa, fb, fc, fd, fx, fy⟩ := m.fit
  have HR : Hid (∀ W, Calls Try.prog 25 #[.agg #[.int .i64 a, .int .i64 b, .int .i64 c, .int .i64 d, .int .i64 x, .int .i64 y]] W fun e w' => e = .returned (.bool true) ∧ Below W.heap.size W w') := Lib.hid fun W => by
    have := rightmatrix_any a b c d x y W fa fb fc fd fx fy
    rw [h] at this
    exact this
  have H1 := Lib.hid (fun W => putbit_any [] (q65 a d) W F.ok_nil (by simp [F.len]))
  have H2 : Hid (q65 a d = true → ∀ W g, Blk W g (iA [a, d]) 3 → Calls Try.prog 68 #[.agg (wrA ([] ++ [(b01 (q65 a d), 1)])), .int .i64 5, .slice (some ⟨g, 0, none⟩) 2 2] W fun e w' => e = .returned (.agg (wrA (mF2 a d))) ∧ Below W.heap.size W w') := Lib.hid fun hq W g hB => by
    unfold mF2
    rw [if_pos hq]
    exact numbers2_put _ a d W g m.o1 (by rw [m.l1]; omega) m.w1 fa fd hB
  have E2 : Hid (q65 a d = false → mF2 a d = [] ++ [(b01 (q65 a d), 1)]) := Lib.hid fun hq => by unfold mF2; rw [hq]; rfl
  have H3 := Lib.hid (fun W => putbit_any (mF2 a d) (qnz b c) W m.o2 (by have := m.l2; omega))
  have H4 : Hid (qnz b c = true → ∀ W g, Blk W g (iA [b, c]) 3 → Calls Try.prog 68 #[.agg (wrA (mF2 a d ++ [(b01 (qnz b c), 1)])), .int .i64 5, .slice (some ⟨g, 0, none⟩) 2 2] W fun e w' => e = .returned (.agg (wrA (mF4 a b c d))) ∧ Below W.heap.size W w') := Lib.hid fun hq W g hB => by
    unfold mF4
    rw [if_pos hq]
    exact numbers2_put _ b c W g m.o3 (by have := m.l3; unfold mF3 at this; omega) m.w2 fb fc hB
  have E4 : Hid (qnz b c = false → mF4 a b c d = mF2 a d ++ [(b01 (qnz b c), 1)]) := Lib.hid fun hq => by unfold mF4 mF3; rw [if_neg (by rw [hq]; decide)]
  have H5 : Hid (∀ W0 W g, Below W0.heap.size W0 W → Blk W g (iA [x, y]) 3 → Calls Try.prog 68 #[.agg #[.string (bs (F.bys (mF4 a b c d))), .int .i64 (F.fr (mF4 a b c d) : Int)], .int .i64 5, .slice (some ⟨g, 0, none⟩) 2 2] W fun e w' => e = .returned (.agg #[.string (bs (F.bys (matF a b c d x y))), .int .i64 (F.fr (matF a b c d x y) : Int)]) ∧ Below W0.heap.size W0 w') := Lib.hid fun W0 W g hW hB =>
    (numbers2_put (mF4 a b c d) x y W g m.o4 (by have := m.l4; omega) (by have := m.w3; omega) fx fy hB).mono fun e w' ⟨h1, h2⟩ => ⟨h1, bq_trans hW h2⟩
  have H6 : Hid (∀ W0 W, Below W0.heap.size W0 W → Calls Try.prog 69 #[.agg #[.string s, .int .i64 f], .agg #[.string (bs (F.bys (matF a b c d x y))), .int .i64 (F.fr (matF a b c d x y) : Int)]] W fun e w' => e = .returned (.agg #[.string (s ++ bs (F.bys (matF a b c d x y))), .int .i64 0]) ∧ Below W0.heap.size W0 w') := Lib.hid fun W0 W hW =>
    (behind_any s (bs (F.bys (matF a b c d x y))) f _ W (by omega) (by rw [bs_size, F.bys_len]; have := m.l5; omega)).mono fun e w'' ⟨h1, h2⟩ => ⟨h1, bq_trans hW h2⟩
  rcases q65_cases a d with ⟨e1, p1⟩ | ⟨e1, p1⟩ <;> rcases qnz_cases b c with ⟨e2, p2⟩ | ⟨e2, p2⟩
  · exact putmatrix_11 s _ _ f _ _ a b c d x y _ _ _ _ _ _ w p1 p2 e1 e2 HR H1 H2 E2 H3 H4 E4 H5 H6 (Lib.hid rfl)
  · exact putmatrix_10 s _ _ f _ _ a b c d x y _ _ _ _ _ _ w p1 p2 e1 e2 HR H1 H2 E2 H3 H4 E4 H5 H6 (Lib.hid rfl)
  · exact putmatrix_01 s _ _ f _ _ a b c d x y _ _ _ _ _ _ w p1 p2 e1 e2 HR H1 H2 E2 H3 H4 E4 H5 H6 (Lib.hid rfl)
  · exact putmatrix_00 s _ _ f _ _ a b c d x y _ _ _ _ _ _ w p1 p2 e1 e2 HR H1 H2 E2 H3 H4 E4 H5 H6 (Lib.hid rfl)
end Go.Proofs.Ythlnjipefeglpaa
namespace Go.Proofs.Ythlnjipefeglpaa
open Go.RowKit
set_option linter.unusedVariables false
set_option maxRecDepth 100000
end Go.Proofs.Ythlnjipefeglpaa
namespace Go.Proofs.Ythlnjipefeglpaa
open Go.RowKit
set_option linter.unusedVariables false
set_option maxRecDepth 100000
end Go.Proofs.Ythlnjipefeglpaa
namespace Go.Proofs.Ythlnjipefeglpaa
open Go.RowKit
set_option linter.unusedVariables false
set_option maxRecDepth 100000
end Go.Proofs.Ythlnjipefeglpaa
namespace Go.Proofs.Ythlnjipefeglpaa
open Go.RowKit
set_option linter.unusedVariables false
set_option maxRecDepth 100000
end Go.Proofs.Ythlnjipefeglpaa
namespace Go.Proofs.Ythlnjipefeglpaa
open Go.RowKit
set_option linter.unusedVariables false
set_option maxRecDepth 100000
end Go.Proofs.Ythlnjipefeglpaa
namespace Go.Proofs.Ythlnjipefeglpaa
open Go.RowKit
set_option linter.unusedVariables false
end Go.Proofs.Ythlnjipefeglpaa
