import Derived.Test.YthlnjipefeglpaaZU14
import Derived.Test.YthlnjipefeglpaaZU15
import Derived.Test.YthlnjipefeglpaaZU12
namespace Go.Proofs.Ythlnjipefeglpaa
open Go.RowKit
set_option linter.unusedVariables false
def q65 (a d : Int) : Bool := (a != 65536) || (d != 65536)
def qnz (b c : Int) : Bool := (b != 0) || (c != 0)
def mF2 (a d : Int) : List (Nat × Nat) := if q65 a d = true then [] ++ [(b01 (q65 a d), 1)] ++ F.nums 5 [a, d] else [] ++ [(b01 (q65 a d), 1)]
def mF3 (a b c d : Int) : List (Nat × Nat) := mF2 a d ++ [(b01 (qnz b c), 1)]
def mF4 (a b c d : Int) : List (Nat × Nat) := if qnz b c = true then mF3 a b c d ++ F.nums 5 [b, c] else mF3 a b c d
def matF (a b c d x y : Int) : List (Nat × Nat) := mF4 a b c d ++ F.nums 5 [x, y]
theorem nums2_len (h : Nat) (x y : Int) : F.len (F.nums h [x, y]) = h + 2 * mxW [x, y] := F.nums_len h [x, y]
structure MatFacts (a b c d x y : Int) : Prop where
  o1 : F.ok ([] ++ [(b01 (q65 a d), 1)])
  l1 : F.len ([] ++ [(b01 (q65 a d), 1)]) = 1
  o2 : F.ok (mF2 a d)
  l2 : F.len (mF2 a d) ≤ 54
  o3 : F.ok (mF3 a b c d)
  l3 : F.len (mF3 a b c d) ≤ 55
  o4 : F.ok (mF4 a b c d)
  l4 : F.len (mF4 a b c d) ≤ 108
  o5 : F.ok (matF a b c d x y)
  l5 : F.len (matF a b c d x y) ≤ 157
  w1 : mxW [a, d] ≤ 24
  w2 : mxW [b, c] ≤ 24
  w3 : mxW [x, y] ≤ 22
  fit : I64 a ∧ I64 b ∧ I64 c ∧ I64 d ∧ I64 x ∧ I64 y
theorem nums2_ok {x y : Int} (h : mxW [x, y] ≤ 24) (hx : I64 x) (hy : I64 y) : F.ok (F.nums 5 [x, y]) :=
  F.nums_ok (Nat.lt_of_le_of_lt h (by decide)) (by omega) (i64_2 hx hy)
theorem matFacts {a b c d x y : Int} (h : matOk a b c d x y = true) : MatFacts a b c d x y := by
  obtain ⟨w1, w2, w3, fa, fb, fc, fd, fx, fy⟩ := mat_wd h
  have o1 : F.ok ([] ++ [(b01 (q65 a d), 1)]) := F.ok_one (b01_lt _)
  have l1 : F.len ([] ++ [(b01 (q65 a d), 1)]) = 1 := rfl
  have n1 := nums2_len 5 a d
  have n2 := nums2_len 5 b c
  have n3 := nums2_len 5 x y
  have o2 : F.ok (mF2 a d) := by
    unfold mF2
    split
    · exact F.ok_app o1 (nums2_ok w1 fa fd)
    · exact o1
  have l2 : F.len (mF2 a d) ≤ 54 := by
    unfold mF2
    split
    · rw [F.len_app, l1]; omega
    · rw [l1]; omega
  have o3 : F.ok (mF3 a b c d) := F.ok_app o2 (F.ok_one (b01_lt _))
  have l3 : F.len (mF3 a b c d) ≤ 55 := by unfold mF3; rw [F.len_app, F.bit_len]; omega
  have o4 : F.ok (mF4 a b c d) := by
    unfold mF4
    split
    · exact F.ok_app o3 (nums2_ok w2 fb fc)
    · exact o3
  have l4 : F.len (mF4 a b c d) ≤ 108 := by
    unfold mF4
    split
    · rw [F.len_app]; omega
    · omega
  have l5 : F.len (matF a b c d x y) ≤ 157 := by unfold matF; rw [F.len_app]; omega
  exact ⟨o1, l1, o2, l2, o3, l3, o4, l4, F.ok_app o4 (nums2_ok (by omega) fx fy), l5, w1, w2, w3, fa, fb, fc, fd, fx, fy⟩
theorem numbers2_put (fs : List (Nat × Nat)) (x y : Int) (W : World) (g : Nat) (h : F.ok fs) (hl : F.len fs ≤ 1000) (hw : mxW [x, y] ≤ 24) (hx : I64 x) (hy : I64 y) (hB : Blk W g (iA [x, y]) 3) :
    Calls Try.prog 68 #[.agg (wrA fs), .int .i64 5, .slice (some ⟨g, 0, none⟩) 2 2] W fun e w' => e = .returned (.agg (wrA (fs ++ F.nums 5 [x, y]))) ∧ Below W.heap.size W w' :=
  putnumbers_any fs 5 [x, y] _ g 0 2 W h (by rw [nums2_len]; omega) (by omega) (Nat.lt_of_le_of_lt hw (by decide)) (by omega) (by simp) (Lib.hid (hB.ints (i64_2 hx hy)))
theorem q65_cases (a d : Int) : (q65 a d = true ∧ ((a != 65536) = true ∨ (a != 65536) = false ∧ (d != 65536) = true)) ∨ (q65 a d = false ∧ ((a != 65536) = false ∧ (d != 65536) = false)) := by
  unfold q65
  cases (a != 65536) <;> cases (d != 65536) <;> simp
theorem qnz_cases (b c : Int) : (qnz b c = true ∧ ((b != 0) = true ∨ (b != 0) = false ∧ (c != 0) = true)) ∨ (qnz b c = false ∧ ((b != 0) = false ∧ (c != 0) = false)) := by
  unfold qnz
  cases (b != 0) <;> cases (c != 0) <;> simp
theorem putmatrix_ok (s : ByteArray) (f a b c d x y : Int) (w : World) (hs : s.size ≤ 1000000) (h : matOk a b c d x y = true) :
    Calls Try.prog 52 #[.agg #[.string s, .int .i64 f], .agg #[.int .i64 a, .int .i64 b, .int .i64 c, .int .i64 d, .int .i64 x, .int .i64 y]] w fun e w' => e = .returned (.tuple #[.agg #[.string (s ++ bs (F.bys (matF a b c d x y))), .int .i64 0], .int .i64 0]) ∧ Below w.heap.size w w' := by
  have m := matFacts h
  obtain ⟨fa, fb, fc, fd, fx, fy⟩ := m.fit
  have HR : Hid (∀ W, Calls Try.prog 25 #[.agg #[.int .i64 a, .int .i64 b, .int .i64 c, .int .i64 d, .int .i64 x, .int .i64 y]] W fun e w' => e = .returned (.bool true) ∧ Below W.heap.size W w') := Lib.hid fun W => by
    have := rightmatrix_any a b c d x y W fa fb fc fd fx fy
    rw [h] at this
    exact this
  have H1 := Lib.hid (fun W => putbit_any [] (q65 a d) W F.ok_nil (by simp [F.len]))
  have H2 : Hid (q65 a d = true → ∀ W g, Blk W g (iA [a, d]) 3 → Calls Try.prog 68 #[.agg (wrA ([] ++ [(b01 (q65 a d), 1)])), .int .i64 5, .slice (some ⟨g, 0, none⟩) 2 2] W fun e w' => e = .returned (.agg (wrA (mF2 a d))) ∧ Below W.heap.size W w') := Lib.hid fun hq W g hB => by
    unfold mF2
    rw [if_pos hq]
    exact numbers2_put _ a d W g m.o1 (by rw [m.l1]; omega) m.w1 fa fd hB
  have E2 : Hid (q65 a d = false → mF2 a d = [] ++ [(b01 (q65 a d), 1)]) := Lib.hid fun hq => by unfold mF2; rw [hq]; rfl
  have H3 := Lib.hid (fun W => putbit_any (mF2 a d) (qnz b c) W m.o2 (by have := m.l2; omega))
  have H4 : Hid (qnz b c = true → ∀ W g, Blk W g (iA [b, c]) 3 → Calls Try.prog 68 #[.agg (wrA (mF2 a d ++ [(b01 (qnz b c), 1)])), .int .i64 5, .slice (some ⟨g, 0, none⟩) 2 2] W fun e w' => e = .returned (.agg (wrA (mF4 a b c d))) ∧ Below W.heap.size W w') := Lib.hid fun hq W g hB => by
    unfold mF4
    rw [if_pos hq]
    exact numbers2_put _ b c W g m.o3 (by have := m.l3; unfold mF3 at this; omega) m.w2 fb fc hB
  have E4 : Hid (qnz b c = false → mF4 a b c d = mF2 a d ++ [(b01 (qnz b c), 1)]) := Lib.hid fun hq => by unfold mF4 mF3; rw [if_neg (by rw [hq]; decide)]
  have H5 : Hid (∀ W0 W g, Below W0.heap.size W0 W → Blk W g (iA [x, y]) 3 → Calls Try.prog 68 #[.agg #[.string (bs (F.bys (mF4 a b c d))), .int .i64 (F.fr (mF4 a b c d) : Int)], .int .i64 5, .slice (some ⟨g, 0, none⟩) 2 2] W fun e w' => e = .returned (.agg #[.string (bs (F.bys (matF a b c d x y))), .int .i64 (F.fr (matF a b c d x y) : Int)]) ∧ Below W0.heap.size W0 w') := Lib.hid fun W0 W g hW hB =>
    (numbers2_put (mF4 a b c d) x y W g m.o4 (by have := m.l4; omega) (by have := m.w3; omega) fx fy hB).mono fun e w' ⟨h1, h2⟩ => ⟨h1, bq_trans hW h2⟩
  have H6 : Hid (∀ W0 W, Below W0.heap.size W0 W → Calls Try.prog 69 #[.agg #[.string s, .int .i64 f], .agg #[.string (bs (F.bys (matF a b c d x y))), .int .i64 (F.fr (matF a b c d x y) : Int)]] W fun e w' => e = .returned (.agg #[.string (s ++ bs (F.bys (matF a b c d x y))), .int .i64 0]) ∧ Below W0.heap.size W0 w') := Lib.hid fun W0 W hW =>
    (behind_any s (bs (F.bys (matF a b c d x y))) f _ W (by omega) (by rw [bs_size, F.bys_len]; have := m.l5; omega)).mono fun e w'' ⟨h1, h2⟩ => ⟨h1, bq_trans hW h2⟩
  rcases q65_cases a d with ⟨e1, p1⟩ | ⟨e1, p1⟩ <;> rcases qnz_cases b c with ⟨e2, p2⟩ | ⟨e2, p2⟩
  · exact putmatrix_11 s _ _ f _ _ a b c d x y _ _ _ _ _ _ w p1 p2 e1 e2 HR H1 H2 E2 H3 H4 E4 H5 H6 (Lib.hid rfl)
  · exact putmatrix_10 s _ _ f _ _ a b c d x y _ _ _ _ _ _ w p1 p2 e1 e2 HR H1 H2 E2 H3 H4 E4 H5 H6 (Lib.hid rfl)
  · exact putmatrix_01 s _ _ f _ _ a b c d x y _ _ _ _ _ _ w p1 p2 e1 e2 HR H1 H2 E2 H3 H4 E4 H5 H6 (Lib.hid rfl)
  · exact putmatrix_00 s _ _ f _ _ a b c d x y _ _ _ _ _ _ w p1 p2 e1 e2 HR H1 H2 E2 H3 H4 E4 H5 H6 (Lib.hid rfl)
end Go.Proofs.Ythlnjipefeglpaa
namespace Go.Proofs.Ythlnjipefeglpaa
open Go.RowKit
set_option linter.unusedVariables false
set_option maxRecDepth 100000
end Go.Proofs.Ythlnjipefeglpaa
namespace Go.Proofs.Ythlnjipefeglpaa
open Go.RowKit
set_option linter.unusedVariables false
set_option maxRecDepth 100000
set_option maxHeartbeats 4000000 in
theorem refputmatrix_00 (s u5 : ByteArray) (v5 a b c d x y : Int) (q1 q2 : Bool) (f1 f2 f3 f4 : List (Nat × Nat)) (w : World) (hs : s.size ≤ 1000000) (hu : u5.size ≤ 100)
    (h1 : (a != 65536) = false ∧ (d != 65536) = false) (h2 : (b != 0) = false ∧ (c != 0) = false) (e1 : q1 = false) (e2 : q2 = false)
    (H1 : Hid (∀ W, Calls Try.prog 53 #[.agg #[.string ⟨#[]⟩, .int .i64 0], .bool q1] W fun e w' => e = .returned (.agg (wrA f1)) ∧ Below W.heap.size W w'))
    (H2 : Hid (q1 = true → ∀ W g, Blk W g (iA [a, d]) 3 → Calls Try.prog 54 #[.agg (wrA f1), .int .i64 5, .slice (some ⟨g, 0, none⟩) 2 2] W fun e w' => e = .returned (.agg (wrA f2)) ∧ Below W.heap.size W w'))
    (E2 : Hid (q1 = false → f2 = f1))
    (H3 : Hid (∀ W, Calls Try.prog 53 #[.agg (wrA f2), .bool q2] W fun e w' => e = .returned (.agg (wrA f3)) ∧ Below W.heap.size W w'))
    (H4 : Hid (q2 = true → ∀ W g, Blk W g (iA [b, c]) 3 → Calls Try.prog 54 #[.agg (wrA f3), .int .i64 5, .slice (some ⟨g, 0, none⟩) 2 2] W fun e w' => e = .returned (.agg (wrA f4)) ∧ Below W.heap.size W w'))
    (E4 : Hid (q2 = false → f4 = f3))
    (H5 : Hid (∀ W g, Blk W g (iA [x, y]) 3 → Calls Try.prog 54 #[.agg (wrA f4), .int .i64 5, .slice (some ⟨g, 0, none⟩) 2 2] W fun e w' => e = .returned (.agg #[.string u5, .int .i64 v5]) ∧ Below W.heap.size W w'))
    : Calls Try.prog 39 #[.string s, .agg #[.int .i64 a, .int .i64 b, .int .i64 c, .int .i64 d, .int .i64 x, .int .i64 y]] w fun e w' => e = .returned (.string (s ++ u5)) ∧ Below w.heap.size w w' := by
  subst e1
  subst e2
  obtain rfl := E2.out rfl
  obtain rfl := E4.out rfl
  clear H2 E2 H4 E4
  rcases h1 with ⟨h1, h1b⟩ <;> rcases h2 with ⟨h2, h2b⟩
  all_goals
    have hfld : ∀ W : World, (Instr.field 97 (.agg #[.string u5, .int .i64 v5]) 0).run Try.prog W = .ok (.string u5) W := fun W => by kernel_rfl
    go_enter Try.func39, Try.ntmps39
    go_wp2_with (first
      | (refine wl_box 25 _ _ rfl rfl (show _ = Value.agg #[.int .i64 a, .int .i64 b, .int .i64 c, .int .i64 d, .int .i64 x, .int .i64 y] from rfl) ?_; intro W1 bm Bm_1 l1 k1; have gm : w.heap.size ≤ bm := l1; have Hw1 := k1; clear l1 k1; have cm_0_1 : W1.cell? ⟨bm, 0, none⟩ = some (.int .i64 a) := Bm_1.cell 0; have cm_3_1 : W1.cell? ⟨bm, 3, none⟩ = some (.int .i64 d) := Bm_1.cell 3)
      | (go_at_call 53; with_reducible refine (H1.out _).mono ?_; rintro e W2 ⟨rfl, k2⟩; have Bm_2 := Bm_1.keep k2; have Hw2 := bq_trans Hw1 k2; clear k2 Bm_1 cm_0_1 cm_3_1 Hw1)
      | (refine wl_alloc 97 _ zero87 rfl rfl ?_; intro W3 bo Bo_3 l3 k3; have go : w.heap.size ≤ bo := Nat.le_trans Hw2.size l3; have nmo : bm ≠ bo := Nat.ne_of_lt (Nat.lt_of_lt_of_le Bm_2.lt l3); have Bm_3 := Bm_2.keep k3; have Hw3 := bq_trans Hw2 k3; clear l3 k3 Bm_2 Hw2)
      | (refine wl_store 97 2 size87 _ _ rfl rfl _ rfl _ rfl _ _ Bo_3 rfl rfl (by kernel_rfl) ?_; intro W4 Bo_4 T4; have Bm_4 := T4.blk Bm_3 nmo; have Hw4 := T4.below Hw3 go; clear T4 Bm_3 Bo_3 Hw3; have cm_0_4 : W4.cell? ⟨bm, 0, none⟩ = some (.int .i64 a) := Bm_4.cell 0; have cm_1_4 : W4.cell? ⟨bm, 1, none⟩ = some (.int .i64 b) := Bm_4.cell 1; have cm_2_4 : W4.cell? ⟨bm, 2, none⟩ = some (.int .i64 c) := Bm_4.cell 2; have cm_3_4 : W4.cell? ⟨bm, 3, none⟩ = some (.int .i64 d) := Bm_4.cell 3)
      | (refine wl_load 97 2 _ Try.underlying97 rfl size87 _ rfl rfl _ rfl _ _ Bo_4 rfl ?_)
      | (go_at_call 53; with_reducible refine (H3.out _).mono ?_; rintro e W5 ⟨rfl, k5⟩; have Bm_5 := Bm_4.keep k5; have Bo_5 := Bo_4.keep k5; have Hw5 := bq_trans Hw4 k5; clear k5 Bm_4 Bo_4 cm_0_4 cm_1_4 cm_2_4 cm_3_4 Hw4)
      | (refine wl_store 97 2 size87 _ _ rfl rfl _ rfl _ rfl _ _ Bo_5 rfl rfl (by kernel_rfl) ?_; intro W6 Bo_6 T6; have Bm_6 := T6.blk Bm_5 nmo; have Hw6 := T6.below Hw5 go; clear T6 Bm_5 Bo_5 Hw5; have cm_1_6 : W6.cell? ⟨bm, 1, none⟩ = some (.int .i64 b) := Bm_6.cell 1; have cm_2_6 : W6.cell? ⟨bm, 2, none⟩ = some (.int .i64 c) := Bm_6.cell 2; have cm_4_6 : W6.cell? ⟨bm, 4, none⟩ = some (.int .i64 x) := Bm_6.cell 4; have cm_5_6 : W6.cell? ⟨bm, 5, none⟩ = some (.int .i64 y) := Bm_6.cell 5)
      | (refine wl_load 97 2 _ Try.underlying97 rfl size87 _ rfl rfl _ rfl _ _ Bo_6 rfl ?_)
      | (refine wlg_slice 90 3 2 _ _ (ints2_run x y) _ rfl rfl rfl ?_; intro W7 bi3 Bi3_7 l7 k7; have gi3 : w.heap.size ≤ bi3 := Nat.le_trans Hw6.size l7; have nmi3 : bm ≠ bi3 := Nat.ne_of_lt (Nat.lt_of_lt_of_le Bm_6.lt l7); have noi3 : bo ≠ bi3 := Nat.ne_of_lt (Nat.lt_of_lt_of_le Bo_6.lt l7); have Bm_7 := Bm_6.keep k7; have Bo_7 := Bo_6.keep k7; have Hw7 := bq_trans Hw6 k7; clear l7 k7 Bm_6 Bo_6 cm_1_6 cm_2_6 cm_4_6 cm_5_6 Hw6)
      | (go_at_call 54; with_reducible refine (H5.out _ _ Bi3_7).mono ?_; rintro e W8 ⟨rfl, k8⟩; have Bm_8 := Bm_7.keep k8; have Bo_8 := Bo_7.keep k8; have Bi3_8 := Bi3_7.keep k8; have Hw8 := bq_trans Hw7 k8; clear k8 Bm_7 Bo_7 Bi3_7 Hw7))
    go_ret
    exact ⟨rfl, Hw8⟩
end Go.Proofs.Ythlnjipefeglpaa
namespace Go.Proofs.Ythlnjipefeglpaa
open Go.RowKit
set_option linter.unusedVariables false
set_option maxRecDepth 100000
set_option maxHeartbeats 4000000 in
theorem refputmatrix_01 (s u5 : ByteArray) (v5 a b c d x y : Int) (q1 q2 : Bool) (f1 f2 f3 f4 : List (Nat × Nat)) (w : World) (hs : s.size ≤ 1000000) (hu : u5.size ≤ 100)
    (h1 : (a != 65536) = false ∧ (d != 65536) = false) (h2 : (b != 0) = true ∨ (b != 0) = false ∧ (c != 0) = true) (e1 : q1 = false) (e2 : q2 = true)
    (H1 : Hid (∀ W, Calls Try.prog 53 #[.agg #[.string ⟨#[]⟩, .int .i64 0], .bool q1] W fun e w' => e = .returned (.agg (wrA f1)) ∧ Below W.heap.size W w'))
    (H2 : Hid (q1 = true → ∀ W g, Blk W g (iA [a, d]) 3 → Calls Try.prog 54 #[.agg (wrA f1), .int .i64 5, .slice (some ⟨g, 0, none⟩) 2 2] W fun e w' => e = .returned (.agg (wrA f2)) ∧ Below W.heap.size W w'))
    (E2 : Hid (q1 = false → f2 = f1))
    (H3 : Hid (∀ W, Calls Try.prog 53 #[.agg (wrA f2), .bool q2] W fun e w' => e = .returned (.agg (wrA f3)) ∧ Below W.heap.size W w'))
    (H4 : Hid (q2 = true → ∀ W g, Blk W g (iA [b, c]) 3 → Calls Try.prog 54 #[.agg (wrA f3), .int .i64 5, .slice (some ⟨g, 0, none⟩) 2 2] W fun e w' => e = .returned (.agg (wrA f4)) ∧ Below W.heap.size W w'))
    (E4 : Hid (q2 = false → f4 = f3))
    (H5 : Hid (∀ W g, Blk W g (iA [x, y]) 3 → Calls Try.prog 54 #[.agg (wrA f4), .int .i64 5, .slice (some ⟨g, 0, none⟩) 2 2] W fun e w' => e = .returned (.agg #[.string u5, .int .i64 v5]) ∧ Below W.heap.size W w'))
    : Calls Try.prog 39 #[.string s, .agg #[.int .i64 a, .int .i64 b, .int .i64 c, .int .i64 d, .int .i64 x, .int .i64 y]] w fun e w' => e = .returned (.string (s ++ u5)) ∧ Below w.heap.size w w' := by
  subst e1
  subst e2
  obtain rfl := E2.out rfl
  have H4b := Lib.hid (H4.out rfl)
  clear H2 E2 H4 E4
  rcases h1 with ⟨h1, h1b⟩ <;> rcases h2 with h2 | ⟨h2, h2b⟩
  all_goals
    have hfld : ∀ W : World, (Instr.field 97 (.agg #[.string u5, .int .i64 v5]) 0).run Try.prog W = .ok (.string u5) W := fun W => by kernel_rfl
    go_enter Try.func39, Try.ntmps39
    go_wp2_with (first
      | (refine wl_box 25 _ _ rfl rfl (show _ = Value.agg #[.int .i64 a, .int .i64 b, .int .i64 c, .int .i64 d, .int .i64 x, .int .i64 y] from rfl) ?_; intro W1 bm Bm_1 l1 k1; have gm : w.heap.size ≤ bm := l1; have Hw1 := k1; clear l1 k1; have cm_0_1 : W1.cell? ⟨bm, 0, none⟩ = some (.int .i64 a) := Bm_1.cell 0; have cm_3_1 : W1.cell? ⟨bm, 3, none⟩ = some (.int .i64 d) := Bm_1.cell 3)
      | (go_at_call 53; with_reducible refine (H1.out _).mono ?_; rintro e W2 ⟨rfl, k2⟩; have Bm_2 := Bm_1.keep k2; have Hw2 := bq_trans Hw1 k2; clear k2 Bm_1 cm_0_1 cm_3_1 Hw1)
      | (refine wl_alloc 97 _ zero87 rfl rfl ?_; intro W3 bo Bo_3 l3 k3; have go : w.heap.size ≤ bo := Nat.le_trans Hw2.size l3; have nmo : bm ≠ bo := Nat.ne_of_lt (Nat.lt_of_lt_of_le Bm_2.lt l3); have Bm_3 := Bm_2.keep k3; have Hw3 := bq_trans Hw2 k3; clear l3 k3 Bm_2 Hw2)
      | (refine wl_store 97 2 size87 _ _ rfl rfl _ rfl _ rfl _ _ Bo_3 rfl rfl (by kernel_rfl) ?_; intro W4 Bo_4 T4; have Bm_4 := T4.blk Bm_3 nmo; have Hw4 := T4.below Hw3 go; clear T4 Bm_3 Bo_3 Hw3; have cm_0_4 : W4.cell? ⟨bm, 0, none⟩ = some (.int .i64 a) := Bm_4.cell 0; have cm_1_4 : W4.cell? ⟨bm, 1, none⟩ = some (.int .i64 b) := Bm_4.cell 1; have cm_2_4 : W4.cell? ⟨bm, 2, none⟩ = some (.int .i64 c) := Bm_4.cell 2; have cm_3_4 : W4.cell? ⟨bm, 3, none⟩ = some (.int .i64 d) := Bm_4.cell 3)
      | (refine wl_load 97 2 _ Try.underlying97 rfl size87 _ rfl rfl _ rfl _ _ Bo_4 rfl ?_)
      | (go_at_call 53; with_reducible refine (H3.out _).mono ?_; rintro e W5 ⟨rfl, k5⟩; have Bm_5 := Bm_4.keep k5; have Bo_5 := Bo_4.keep k5; have Hw5 := bq_trans Hw4 k5; clear k5 Bm_4 Bo_4 cm_0_4 cm_1_4 cm_2_4 cm_3_4 Hw4)
      | (refine wl_store 97 2 size87 _ _ rfl rfl _ rfl _ rfl _ _ Bo_5 rfl rfl (by kernel_rfl) ?_; intro W6 Bo_6 T6; have Bm_6 := T6.blk Bm_5 nmo; have Hw6 := T6.below Hw5 go; clear T6 Bm_5 Bo_5 Hw5; have cm_1_6 : W6.cell? ⟨bm, 1, none⟩ = some (.int .i64 b) := Bm_6.cell 1; have cm_2_6 : W6.cell? ⟨bm, 2, none⟩ = some (.int .i64 c) := Bm_6.cell 2; have cm_4_6 : W6.cell? ⟨bm, 4, none⟩ = some (.int .i64 x) := Bm_6.cell 4; have cm_5_6 : W6.cell? ⟨bm, 5, none⟩ = some (.int .i64 y) := Bm_6.cell 5)
      | (refine wl_load 97 2 _ Try.underlying97 rfl size87 _ rfl rfl _ rfl _ _ Bo_6 rfl ?_)
      | (refine wlg_slice 90 3 2 _ _ (ints2_run b c) _ rfl rfl rfl ?_; intro W7 bi2 Bi2_7 l7 k7; have gi2 : w.heap.size ≤ bi2 := Nat.le_trans Hw6.size l7; have nmi2 : bm ≠ bi2 := Nat.ne_of_lt (Nat.lt_of_lt_of_le Bm_6.lt l7); have noi2 : bo ≠ bi2 := Nat.ne_of_lt (Nat.lt_of_lt_of_le Bo_6.lt l7); have Bm_7 := Bm_6.keep k7; have Bo_7 := Bo_6.keep k7; have Hw7 := bq_trans Hw6 k7; clear l7 k7 Bm_6 Bo_6 cm_1_6 cm_2_6 cm_4_6 cm_5_6 Hw6)
      | (go_at_call 54; with_reducible refine (H4b.out _ _ Bi2_7).mono ?_; rintro e W8 ⟨rfl, k8⟩; have Bm_8 := Bm_7.keep k8; have Bo_8 := Bo_7.keep k8; have Bi2_8 := Bi2_7.keep k8; have Hw8 := bq_trans Hw7 k8; clear k8 Bm_7 Bo_7 Bi2_7 Hw7)
      | (refine wl_store 97 2 size87 _ _ rfl rfl _ rfl _ rfl _ _ Bo_8 rfl rfl (by kernel_rfl) ?_; intro W9 Bo_9 T9; have Bm_9 := T9.blk Bm_8 nmo; have Bi2_9 := T9.blk Bi2_8 (Ne.symm noi2); have Hw9 := T9.below Hw8 go; clear T9 Bm_8 Bi2_8 Bo_8 Hw8; have cm_4_9 : W9.cell? ⟨bm, 4, none⟩ = some (.int .i64 x) := Bm_9.cell 4; have cm_5_9 : W9.cell? ⟨bm, 5, none⟩ = some (.int .i64 y) := Bm_9.cell 5)
      | (refine wl_load 97 2 _ Try.underlying97 rfl size87 _ rfl rfl _ rfl _ _ Bo_9 rfl ?_)
      | (refine wlg_slice 90 3 2 _ _ (ints2_run x y) _ rfl rfl rfl ?_; intro W10 bi3 Bi3_10 l10 k10; have gi3 : w.heap.size ≤ bi3 := Nat.le_trans Hw9.size l10; have nmi3 : bm ≠ bi3 := Nat.ne_of_lt (Nat.lt_of_lt_of_le Bm_9.lt l10); have noi3 : bo ≠ bi3 := Nat.ne_of_lt (Nat.lt_of_lt_of_le Bo_9.lt l10); have ni2i3 : bi2 ≠ bi3 := Nat.ne_of_lt (Nat.lt_of_lt_of_le Bi2_9.lt l10); have Bm_10 := Bm_9.keep k10; have Bo_10 := Bo_9.keep k10; have Bi2_10 := Bi2_9.keep k10; have Hw10 := bq_trans Hw9 k10; clear l10 k10 Bm_9 Bo_9 Bi2_9 cm_4_9 cm_5_9 Hw9)
      | (go_at_call 54; with_reducible refine (H5.out _ _ Bi3_10).mono ?_; rintro e W11 ⟨rfl, k11⟩; have Bm_11 := Bm_10.keep k11; have Bo_11 := Bo_10.keep k11; have Bi2_11 := Bi2_10.keep k11; have Bi3_11 := Bi3_10.keep k11; have Hw11 := bq_trans Hw10 k11; clear k11 Bm_10 Bo_10 Bi2_10 Bi3_10 Hw10))
    go_ret
    exact ⟨rfl, Hw11⟩
end Go.Proofs.Ythlnjipefeglpaa
