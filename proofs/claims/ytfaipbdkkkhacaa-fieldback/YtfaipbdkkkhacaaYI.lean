import Derived.Test.YtfaipbdkkkhacaaYF
import Derived.Test.YtfaipbdkkkhacaaYE
import Derived.Test.YtfaipbdkkkhacaaYH
import Derived.Test.YtfaipbdkkkhacaaYG2
import Derived.Test.YtfaipbdkkkhacaaYC
import Derived.Laws.StructEq
import Derived.Deep.RegionHeld3
/- Layer 7: values that are the same; the law's small calls; a fixed answer. -/
namespace Go.Proofs.Ytfaipbdkkkhacaa
open Go.RowKit
set_option linter.unusedVariables false
set_option maxRecDepth 100000

theorem eqRect (a b c d : Int) (w : World) : (Op.equalIn 10000 25 (.agg #[.int .i64 a, .int .i64 b, .int .i64 c, .int .i64 d]) (.agg #[.int .i64 a, .int .i64 b, .int .i64 c, .int .i64 d])).run Try.prog w = .ok true w := by
  go_simp
theorem eqMatrix (a b c d x y : Int) (w : World) : (Op.equalIn 10000 27 (.agg #[.int .i64 a, .int .i64 b, .int .i64 c, .int .i64 d, .int .i64 x, .int .i64 y]) (.agg #[.int .i64 a, .int .i64 b, .int .i64 c, .int .i64 d, .int .i64 x, .int .i64 y])).run Try.prog w = .ok true w := by
  go_simp
theorem eqRGBA (a b c d : Int) (w : World) : (Op.equalIn 10000 32 (.agg #[.int .i64 a, .int .i64 b, .int .i64 c, .int .i64 d]) (.agg #[.int .i64 a, .int .i64 b, .int .i64 c, .int .i64 d])).run Try.prog w = .ok true w := by
  go_simp
theorem part4 (a b c d e f g i : Int) (w : World) : (part 28 #[.int .i64 a, .int .i64 b, .int .i64 c, .int .i64 d, .int .i64 e, .int .i64 f, .int .i64 g, .int .i64 i] 0).run Try.prog w = .ok (.agg (iA [a, b, c, d])) w ∧ (part 28 #[.int .i64 a, .int .i64 b, .int .i64 c, .int .i64 d, .int .i64 e, .int .i64 f, .int .i64 g, .int .i64 i] 4).run Try.prog w = .ok (.agg (iA [e, f, g, i])) w := ⟨by kernel_rfl, by kernel_rfl⟩
theorem eq4d (l : List Int) (h : l.length = 4) (d : Nat) (w : World) : (Op.equalIn (d + 2) 28 (.agg (iA l)) (.agg (iA l))).run Try.prog w = .ok true w := by
  have hi : ∃ i, Try.prog.info? 3 = some i := Option.isSome_iff_exists.1 (by kernel_rfl)
  obtain ⟨i, hi⟩ := hi
  rw [run_equalIn_array w (d + 1) (iA l) (iA l) Try.underlying28 hi, cells3]
  rw [eqItems_ints l l d w (List.range 4) (fun i h => by simp at h; omega)]
  simp
theorem eqCx (a b c d e f g i : Int) (w : World) : (Op.equalIn 10000 30 (.agg #[.int .i64 a, .int .i64 b, .int .i64 c, .int .i64 d, .int .i64 e, .int .i64 f, .int .i64 g, .int .i64 i]) (.agg #[.int .i64 a, .int .i64 b, .int .i64 c, .int .i64 d, .int .i64 e, .int .i64 f, .int .i64 g, .int .i64 i])).run Try.prog w = .ok true w := by
  have p := part4 a b c d e f g i w
  have q1 := eq4d [a, b, c, d] rfl 9997 w
  have q2 := eq4d [e, f, g, i] rfl 9997 w
  rw [run_equalIn_struct w 9999 30 _ _ (by kernel_rfl) (by kernel_rfl)]
  simp only [iA, List.map_cons, List.map_nil] at p q1 q2
  go_simp
theorem lawin_any (s : ByteArray) (a : Int) (w : World) : Calls Try.prog 31 #[.agg #[.string s, .int .i64 a]] w fun e w' => e = .returned (.agg #[.string s, .int .i64 a]) ∧ Below w.heap.size w w' := by
  go_enter Try.func31, Try.ntmps31
  go_wp2
  exact bodyPost_ret (v := .agg #[.string s, .int .i64 a]) (by simp [results, Try.results31, go_sem]) rfl ⟨rfl, bq_alloc (bq_alloc (Below.refl _ _) _) _⟩
theorem lawput_yes (s : ByteArray) (w : World) : Calls Try.prog 21 #[.agg #[.string s, .int .i64 0], .int .i64 0, .bool true, .string s] w fun e w' => e = .returned (.bool true) ∧ Below w.heap.size w w' := by
  go_enter Try.func21, Try.ntmps21
  go_wp2
  all_goals (go_ret; exact ⟨ret_bool (by simp), bq_alloc (Below.refl _ _) _⟩)
theorem lawput_no (w : World) : Calls Try.prog 21 #[.agg #[.string ⟨#[]⟩, .int .i64 0], .int .i64 1, .bool false, .string ⟨#[]⟩] w fun e w' => e = .returned (.bool true) ∧ Below w.heap.size w w' := by
  go_enter Try.func21, Try.ntmps21
  go_wp2
  all_goals (go_ret; exact ⟨ret_bool (by simp), bq_alloc (Below.refl _ _) _⟩)
/-- the fixed answers -/
theorem aw_rect : (⟨#[]⟩ : ByteArray) ++ bs (F.bys (rectF 0 1 0 1)) = ⟨#[16, 136]⟩ := by decide +kernel
theorem aw_mat : (⟨#[]⟩ : ByteArray) ++ bs (F.bys (matF 65536 0 0 65536 0 0)) = ⟨#[0]⟩ := by decide +kernel
theorem aw_take : matV (RS.begP ⟨#[0]⟩ 0) = [65536, 0, 0, 65536, 0, 0] ∧ (matS (RS.begP ⟨#[0]⟩ 0)).e = 0 := by decide +kernel
end Go.Proofs.Ytfaipbdkkkhacaa
/- Layer 7: the law's fixed answer. -/
namespace Go.Proofs.Ytfaipbdkkkhacaa
open Go.RowKit
set_option linter.unusedVariables false
set_option maxRecDepth 100000

set_option maxHeartbeats 4000000 in
theorem awake_any (w : World) : Calls Try.prog 8 #[] w fun e w' => e = .returned (.bool true) ∧ Below w.heap.size w w' := by
  have A1 : Hid (∀ W, Calls Try.prog 9 #[.agg #[.string ⟨#[]⟩, .int .i64 0], .agg #[.int .i64 0, .int .i64 1, .int .i64 0, .int .i64 1]] W fun e w' => e = .returned (.tuple #[.agg #[.string ⟨#[16, 136]⟩, .int .i64 0], .int .i64 0]) ∧ Below W.heap.size W w') := Lib.hid fun W => by
    have := putrect_ok ⟨#[]⟩ 0 0 1 0 1 W (by decide) (by decide +kernel)
    rw [aw_rect] at this
    exact this
  have A2 : Hid (∀ W, Calls Try.prog 10 #[.agg #[.string ⟨#[]⟩, .int .i64 0], .agg #[.int .i64 65536, .int .i64 0, .int .i64 0, .int .i64 65536, .int .i64 0, .int .i64 0]] W fun e w' => e = .returned (.tuple #[.agg #[.string ⟨#[0]⟩, .int .i64 0], .int .i64 0]) ∧ Below W.heap.size W w') := Lib.hid fun W => by
    have := putmatrix_ok ⟨#[]⟩ 0 65536 0 0 65536 0 0 W (by decide) (by decide +kernel)
    rw [aw_mat] at this
    exact this
  obtain ⟨ts, hts⟩ : ∃ t, t = (matS (RS.begP ⟨#[0]⟩ 0)).s := ⟨_, rfl⟩
  obtain ⟨ta, hta⟩ : ∃ t, t = (matS (RS.begP ⟨#[0]⟩ 0)).a := ⟨_, rfl⟩
  have A3 : Hid (∀ W, Calls Try.prog 27 #[.agg #[.string ⟨#[0]⟩, .int .i64 0]] W fun e w' => e = .returned (.tuple #[.agg #[.int .i64 65536, .int .i64 0, .int .i64 0, .int .i64 65536, .int .i64 0, .int .i64 0], .agg #[.string ts, .int .i64 ta], .int .i64 0]) ∧ Below W.heap.size W w') := Lib.hid fun W => by
    have := takematrix_any ⟨#[0]⟩ 0 W (by decide)
    rw [aw_take.1, aw_take.2, ← hts, ← hta] at this
    exact this
  clear hts hta
  have hfld : ∀ W : World, (Instr.field 30 (.agg (iA [256, 256, 256, 256, 0, 0, 0, 0])) 0).run Try.prog W = .ok (.agg (iA [256, 256, 256, 256])) W := fun W => by kernel_rfl
  have hidx : ∀ W : World, (Instr.index 28 (.agg (iA [256, 256, 256, 256])) (.int .i64 3)).run Try.prog W = .ok (.int .i64 256) W := fun W => by kernel_rfl
  have hqm := fun W => eqMatrix 65536 0 0 65536 0 0 W
  go_enter Try.func8, Try.ntmps8
  go_wp2_with (first
    | (go_at_call 9; (with_reducible refine (A1.out _).mono ?_); rintro e W1 ⟨rfl, k1⟩; have Hw1 := k1; clear k1)
    | (refine wl_alloc 23 _ zero23 rfl rfl ?_; intro W2 bp Bp_2 l2 k2; have gp : w.heap.size ≤ bp := Nat.le_trans Hw1.size l2; have Hw2 := bq_trans Hw1 k2; clear l2 k2 Hw1)
    | (refine wl_store 23 2 size23 _ _ rfl rfl _ rfl _ rfl _ _ Bp_2 rfl rfl (by kernel_rfl) ?_; intro W3 Bp_3 T3; have Hw3 := T3.below Hw2 gp; clear T3 Bp_2 Hw2)
    | (go_at_call 36; (with_reducible refine (same_any _).mono ?_); rintro e W4 ⟨rfl, k4⟩; have Bp_4 := Bp_3.keep k4; have Hw4 := bq_trans Hw3 k4; clear k4 Bp_3 Hw3)
    | (go_at_call 10; (with_reducible refine (A2.out _).mono ?_); rintro e W5 ⟨rfl, k5⟩; have Bp_5 := Bp_4.keep k5; have Hw5 := bq_trans Hw4 k5; clear k5 Bp_4 Hw4)
    | (refine wl_alloc 23 _ zero23 rfl rfl ?_; intro W6 bv Bv_6 l6 k6; have gv : w.heap.size ≤ bv := Nat.le_trans Hw5.size l6; have npv : bp ≠ bv := Nat.ne_of_lt (Nat.lt_of_lt_of_le Bp_5.lt l6); have Bp_6 := Bp_5.keep k6; have Hw6 := bq_trans Hw5 k6; clear l6 k6 Bp_5 Hw5)
    | (refine wl_store 23 2 size23 _ _ rfl rfl _ rfl _ rfl _ _ Bv_6 rfl rfl (by kernel_rfl) ?_; intro W7 Bv_7 T7; have Bp_7 := T7.blk Bp_6 npv; have Hw7 := T7.below Hw6 gv; clear T7 Bp_6 Bv_6 Hw6)
    | (go_at_call 27; (with_reducible refine (A3.out _).mono ?_); rintro e W8 ⟨rfl, k8⟩; have Bp_8 := Bp_7.keep k8; have Bv_8 := Bv_7.keep k8; have Hw8 := bq_trans Hw7 k8; clear k8 Bp_7 Bv_7 Hw7)
    | (refine wl_alloc 27 _ zero27 rfl rfl ?_; intro W9 bm Bm_9 l9 k9; have gm : w.heap.size ≤ bm := Nat.le_trans Hw8.size l9; have npm : bp ≠ bm := Nat.ne_of_lt (Nat.lt_of_lt_of_le Bp_8.lt l9); have nvm : bv ≠ bm := Nat.ne_of_lt (Nat.lt_of_lt_of_le Bv_8.lt l9); have Bp_9 := Bp_8.keep k9; have Bv_9 := Bv_8.keep k9; have Hw9 := bq_trans Hw8 k9; clear l9 k9 Bp_8 Bv_8 Hw8)
    | (refine wl_alloc 51 _ zero51 rfl rfl ?_; intro W10 bd Bd_10 l10 k10; have gd : w.heap.size ≤ bd := Nat.le_trans Hw9.size l10; have npd : bp ≠ bd := Nat.ne_of_lt (Nat.lt_of_lt_of_le Bp_9.lt l10); have nvd : bv ≠ bd := Nat.ne_of_lt (Nat.lt_of_lt_of_le Bv_9.lt l10); have nmd : bm ≠ bd := Nat.ne_of_lt (Nat.lt_of_lt_of_le Bm_9.lt l10); have Bp_10 := Bp_9.keep k10; have Bv_10 := Bv_9.keep k10; have Bm_10 := Bm_9.keep k10; have Hw10 := bq_trans Hw9 k10; clear l10 k10 Bp_9 Bv_9 Bm_9 Hw9)
    | (refine wl_store 27 6 size27 _ _ rfl rfl _ rfl _ rfl _ _ Bm_10 rfl rfl (by kernel_rfl) ?_; intro W11 Bm_11 T11; have Bp_11 := T11.blk Bp_10 npm; have Bv_11 := T11.blk Bv_10 nvm; have Bd_11 := T11.blk Bd_10 (Ne.symm nmd); have Hw11 := T11.below Hw10 gm; clear T11 Bp_10 Bv_10 Bd_10 Bm_10 Hw10)
    | (refine wl_store 51 2 size51 _ _ rfl rfl _ rfl _ rfl _ _ Bd_11 rfl rfl (by kernel_rfl) ?_; intro W12 Bd_12 T12; have Bp_12 := T12.blk Bp_11 npd; have Bv_12 := T12.blk Bv_11 nvd; have Bm_12 := T12.blk Bm_11 nmd; have Hw12 := T12.below Hw11 gd; clear T12 Bp_11 Bv_11 Bm_11 Bd_11 Hw11))
  have HC : Hid (∀ w', Below W12.heap.size W12 w' → w'.cell? ⟨bp, 0, none⟩ = some (.string ⟨#[16, 136]⟩) ∧ w'.cell? ⟨bv, 0, none⟩ = some (.string ⟨#[0]⟩) ∧ w'.cell? ⟨bm, 0, none⟩ = some (.int .i64 65536) ∧ w'.cell? ⟨bm, 1, none⟩ = some (.int .i64 0) ∧ w'.cell? ⟨bm, 2, none⟩ = some (.int .i64 0) ∧ w'.cell? ⟨bm, 3, none⟩ = some (.int .i64 65536) ∧ w'.cell? ⟨bm, 4, none⟩ = some (.int .i64 0) ∧ w'.cell? ⟨bm, 5, none⟩ = some (.int .i64 0)) := Lib.hid fun w' hw' => ⟨(Bp_12.keep hw').cell 0, (Bv_12.keep hw').cell 0, (Bm_12.keep hw').cell 0, (Bm_12.keep hw').cell 1, (Bm_12.keep hw').cell 2, (Bm_12.keep hw').cell 3, (Bm_12.keep hw').cell 4, (Bm_12.keep hw').cell 5⟩
  have HSm : Hid (∀ W, Below W12.heap.size W12 W → Calls Try.prog 36 #[] W fun e w' => e = .returned (.agg #[.int .i64 65536, .int .i64 0, .int .i64 0, .int .i64 65536, .int .i64 0, .int .i64 0]) ∧ Below W12.heap.size W12 w') := Lib.hid fun W h => (same_any W).mono fun e w' ⟨h1, h2⟩ => ⟨h1, bq_trans h h2⟩
  have HPl : Hid (∀ W, Below W12.heap.size W12 W → Calls Try.prog 37 #[] W fun e w' => e = .returned (.agg (iA [256, 256, 256, 256, 0, 0, 0, 0])) ∧ Below W12.heap.size W12 w') := Lib.hid fun W h => (plaincx_any W).mono fun e w' ⟨h1, h2⟩ => ⟨h1, bq_trans h h2⟩
  have hd0 : Below W12.heap.size W12 W12.drew := bq_drew (bq_refl W12)
  have HB := Lib.hid Hw12
  clear A1 A2 A3 Bp_12 Bv_12 Bm_12 Bd_12 Hw12
  go_region_held3 (fun w' => w'.cell? ⟨bp, 0, none⟩ = some (.string ⟨#[16, 136]⟩) ∧ w'.cell? ⟨bv, 0, none⟩ = some (.string ⟨#[0]⟩) ∧ w'.cell? ⟨bm, 0, none⟩ = some (.int .i64 65536) ∧ w'.cell? ⟨bm, 1, none⟩ = some (.int .i64 0) ∧ w'.cell? ⟨bm, 2, none⟩ = some (.int .i64 0) ∧ w'.cell? ⟨bm, 3, none⟩ = some (.int .i64 65536) ∧ w'.cell? ⟨bm, 4, none⟩ = some (.int .i64 0) ∧ w'.cell? ⟨bm, 5, none⟩ = some (.int .i64 0))
    ((refine HC.out _ ?_; repeat' (first | (with_reducible refine bq_drew ?_) | (with_reducible exact bq_refl _) | assumption)))
    (first
      | (go_at_call 36; refine (HSm.out _ (by first | assumption | exact bq_refl _)).mono ?_; rintro e w8 ⟨rfl, hb8⟩)
      | (go_at_call 37; refine (HPl.out _ (by first | assumption | exact bq_refl _)).mono ?_; rintro e w9 ⟨rfl, hb9⟩))
  all_goals
    go_wp2
    go_ret
    exact ⟨rfl, bq_trans HB.out hb9⟩
end Go.Proofs.Ytfaipbdkkkhacaa
/- Steps of a drawn region, one operation after the other. -/
namespace Go.Proofs.Ytfaipbdkkkhacaa
open Go.RowKit
set_option linter.unusedVariables false
section
variable {P : Program} {md : Region.Mode} {ops : Array Oper} {Q : Exit → Act → World → Prop} {S : World → Prop}
theorem hTake {i : Nat} {oi : Oper} {d : Option Tmp} {v : Value} {fuel : Nat} {listed : Array Bool} {a : Act} {w : World} (hi : ops[i]? = some oi) (hd : oi.dst = d)
    (hs : Region.noSelect ops = true) (hf : Region.free md ops listed i = true) (hr : (Region.ready md ops listed).contains i = true)
    (hQ : ∀ c a w, Q (.panic c) (a.put d v) w → Q (.panic c) a w) (hy : YieldsIf P ops S oi v a) (hS : S w)
    (h : wpAnyH P md ops Q S fuel (listed.setIfInBounds i true) (a.put d v) w) : wpAnyH P md ops Q S (fuel + 1) listed a w := by
  subst hd
  exact wpAnyH_take hi hs hf hr hQ hy hS h
end
end Go.Proofs.Ytfaipbdkkkhacaa
