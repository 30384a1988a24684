import Derived.Test.YtfaipbdkkkhacaaYC
import Derived.Deep.RegionHeld3
import Derived.BigRegion
/- Layer 7: the change that turns nothing; facts on changes. -/
namespace Go.Proofs.Ytfaipbdkkkhacaa
open Go.RowKit
set_option linter.unusedVariables false

theorem OwnI.intsN {w : World} {B : Nat} {v : Value} {l : List Int} {N : Nat} (h : OwnI w B v l) (hN : l.length = N) (hb : ∀ z ∈ l, -9223372036854775808 ≤ z ∧ z ≤ 9223372036854775807) : ∃ a b c, v = .slice a N c ∧ Ints w l a b 0 := hN ▸ h.ints hb
theorem size28 : (Try.prog.info? 28).map (·.size) = some 4 := by kernel_rfl
theorem size30 : (Try.prog.info? 30).map (·.size) = some 8 := by kernel_rfl
theorem zero30 (w : World) : (zeroValue 30).run Try.prog w = .ok (.agg (iA [0, 0, 0, 0, 0, 0, 0, 0])) w := Try.zeroValue30 w
theorem plaincx_any (w : World) : Calls Try.prog 37 #[] w fun e w' => e = .returned (.agg (iA [256, 256, 256, 256, 0, 0, 0, 0])) ∧ Below w.heap.size w w' := by
  go_enter Try.func37, Try.ntmps37
  go_wp2_with (first
    | (refine wl_alloc 30 _ zero30 rfl rfl ?_; intro W1 br Br_1 l1 k1; have gr : w.heap.size ≤ br := l1; have Hw1 := k1; clear l1 k1)
    | (refine wl_store 30 8 size30 _ _ rfl rfl _ rfl (iA [256, 256, 256, 256, 0, 0, 0, 0]) rfl _ _ Br_1 rfl rfl (by kernel_rfl) ?_; intro W2 Br_2 T2; have Hw2 := T2.below Hw1 gr; clear T2 Br_1 Hw1))
  exact post_cell Try.underlying30 rfl size30 Try.results37 Br_2 rfl rfl rfl ⟨rfl, Hw2⟩
theorem i64_l {m : List Int} {c : Int} (h : m.all (nr c) = true) (hc : c ≤ 1000000000) : ∀ v ∈ m, -9223372036854775808 ≤ v ∧ v ≤ 9223372036854775807 := fun v hv => by
  have := (nr_iff c v).1 (List.all_eq_true.1 h v hv)
  omega
def tells (m d : List Int) : List Int := (if m = [256, 256, 256, 256] then [] else m) ++ (if d = [0, 0, 0, 0] then [] else d)
theorem tells_wd {m d : List Int} (h : cxOk m d = true) : mxW (tells m d) ≤ 11 ∧ ∀ v ∈ tells m d, -9223372036854775808 ≤ v ∧ v ≤ 9223372036854775807 := by
  unfold cxOk at h
  rw [Bool.and_eq_true] at h
  have h1 := i64_l h.1 (by omega)
  have h2 := i64_l h.2 (by omega)
  have w1 : ∀ v ∈ m, wd v ≤ 11 := fun v hv => nr_wd (n := 10) (List.all_eq_true.1 h.1 v hv) (by omega) (by decide)
  have w2 : ∀ v ∈ d, wd v ≤ 11 := fun v hv => nr_wd (n := 10) (m := 255) (List.all_eq_true.1 h.2 v hv) (by omega) (by decide)
  have hm : ∀ v ∈ tells m d, v ∈ m ∨ v ∈ d := by
    intro v hv
    unfold tells at hv
    rw [List.mem_append] at hv
    rcases hv with hv | hv
    · left
      split at hv
      · simp at hv
      · exact hv
    · right
      split at hv
      · simp at hv
      · exact hv
  exact ⟨F.mxW_le fun v hv => (hm v hv).elim (w1 v) (w2 v), fun v hv => (hm v hv).elim (h1 v) (h2 v)⟩
theorem tells_len (m d : List Int) (hm : m.length = 4) (hd : d.length = 4) : (tells m d).length ≤ 8 := by
  unfold tells
  rw [List.length_append]
  split <;> split <;> simp [hm, hd]
def cxB (d : List Int) : Bool := !decide (d = [0, 0, 0, 0])
def cxM (m : List Int) : Bool := !decide (m = [256, 256, 256, 256])
def cF2 (m d : List Int) : List (Nat × Nat) := [] ++ [(b01 (cxB d), 1)] ++ [(b01 (cxM m), 1)]
def cxF (m d : List Int) : List (Nat × Nat) := cF2 m d ++ F.nums 4 (tells m d)
theorem cF2_ok (m d : List Int) : F.ok (cF2 m d) := F.ok_app (F.ok_one (b01_lt _)) (F.ok_one (b01_lt _))
theorem cF2_len (m d : List Int) : F.len (cF2 m d) = 2 := rfl
theorem cxF_ok {m d : List Int} (h : cxOk m d = true) : F.ok (cxF m d) := F.ok_app (cF2_ok m d) (F.nums_ok (Nat.lt_of_le_of_lt (tells_wd h).1 (by decide)) (by have := (tells_wd h).1; omega) (tells_wd h).2)
theorem cxF_len (m d : List Int) : F.len (cxF m d) = 6 + (tells m d).length * mxW (tells m d) := by
  unfold cxF; rw [F.len_app, cF2_len, F.nums_len]; omega
theorem cxF_len_le {m d : List Int} (h : cxOk m d = true) (hm : m.length = 4) (hd : d.length = 4) : F.len (cxF m d) ≤ 94 := by
  rw [cxF_len]
  have h1 := (tells_wd h).1
  have h2 := tells_len m d hm hd
  have h3 : (tells m d).length * mxW (tells m d) ≤ 8 * 11 := Nat.mul_le_mul h2 h1
  omega
set_option maxHeartbeats 1000000 in
theorem putcx_bad (s : ByteArray) (f m0 m1 m2 m3 d0 d1 d2 d3 : Int) (w : World) (hm0 : I64 m0) (hm1 : I64 m1) (hm2 : I64 m2) (hm3 : I64 m3) (hd0 : I64 d0) (hd1 : I64 d1) (hd2 : I64 d2) (hd3 : I64 d3) (h : cxOk [m0, m1, m2, m3] [d0, d1, d2, d3] = false) :
    Calls Try.prog 11 #[.agg #[.string s, .int .i64 f], .agg (iA [m0, m1, m2, m3, d0, d1, d2, d3])] w fun e w' => e = .returned errW ∧ Below w.heap.size w w' := by
  have HR := fun w => rightcx_any m0 m1 m2 m3 d0 d1 d2 d3 w hm0 hm1 hm2 hm3 hd0 hd1 hd2 hd3
  rw [h] at HR
  have HR2 := Lib.hid HR
  clear HR h hm0 hm1 hm2 hm3 hd0 hd1 hd2 hd3
  go_enter Try.func11, Try.ntmps11
  go_wp2_with (first
    | (refine wl_box 23 _ _ rfl rfl (show _ = Value.agg #[.string s, .int .i64 f] from rfl) ?_; intro W1 bw Bw_1 l1 k1; have gw : w.heap.size ≤ bw := l1; have Hw1 := k1; clear l1 k1)
    | (refine wl_box 30 _ _ rfl rfl (show _ = Value.agg (iA [m0, m1, m2, m3, d0, d1, d2, d3]) from rfl) ?_; intro W2 bm Bm_2 l2 k2; have gm : w.heap.size ≤ bm := Nat.le_trans Hw1.size l2; have nwm : bw ≠ bm := Nat.ne_of_lt (Nat.lt_of_lt_of_le Bw_1.lt l2); have Bw_2 := Bw_1.keep k2; have Hw2 := bq_trans Hw1 k2; clear l2 k2 Bw_1 Hw1)
    | (refine wl_alloc 23 _ zero23 rfl rfl ?_; intro W3 br Br_3 l3 k3; have gr : w.heap.size ≤ br := Nat.le_trans Hw2.size l3; have nwr : bw ≠ br := Nat.ne_of_lt (Nat.lt_of_lt_of_le Bw_2.lt l3); have nmr : bm ≠ br := Nat.ne_of_lt (Nat.lt_of_lt_of_le Bm_2.lt l3); have Bw_3 := Bw_2.keep k3; have Bm_3 := Bm_2.keep k3; have Hw3 := bq_trans Hw2 k3; clear l3 k3 Bw_2 Bm_2 Hw2)
    | (refine wl_load 30 8 _ Try.underlying30 rfl size30 _ rfl rfl _ rfl _ _ Bm_3 rfl ?_)
    | (go_at_call 19; with_reducible refine (HR2.out _).mono ?_; rintro e W4 ⟨rfl, k4⟩; have Bw_4 := Bw_3.keep k4; have Bm_4 := Bm_3.keep k4; have Br_4 := Br_3.keep k4; have Hw4 := bq_trans Hw3 k4; clear k4 Bw_3 Bm_3 Br_3 Hw3)
    | (refine wl_store 23 2 size23 _ _ rfl rfl _ rfl #[.string ⟨#[]⟩, .int .i64 0] rfl _ _ Br_4 rfl rfl (by kernel_rfl) ?_; intro W5 Br_5 T5; have Bw_5 := T5.blk Bw_4 nwr; have Bm_5 := T5.blk Bm_4 nmr; have Hw5 := T5.below Hw4 gr; clear T5 Bw_4 Bm_4 Br_4 Hw4))
  exact post_cell_tmp (v := .int .i64 1) Try.underlying23 rfl size23 Try.results11 Br_5 rfl rfl rfl rfl ⟨rfl, Hw5⟩
end Go.Proofs.Ytfaipbdkkkhacaa
/- Layer 7: a change behind a writer, way by way. -/
namespace Go.Proofs.Ytfaipbdkkkhacaa
open Go.RowKit
set_option linter.unusedVariables false

set_option maxHeartbeats 4000000 in
theorem putcx_00 (s u2 u3 : ByteArray) (f v2 v3 m0 m1 m2 m3 d0 d1 d2 d3 : Int) (f1 : List (Nat × Nat)) (w : World) (hM : decide ([m0, m1, m2, m3] = [256, 256, 256, 256]) = true) (hD : decide ([d0, d1, d2, d3] = [0, 0, 0, 0]) = true)
    (hb : ∀ v ∈ [m0, m1, m2, m3, d0, d1, d2, d3], -9223372036854775808 ≤ v ∧ v ≤ 9223372036854775807)
    (HR : Hid (∀ W, Calls Try.prog 19 #[.agg (iA [m0, m1, m2, m3, d0, d1, d2, d3])] W fun e w' => e = .returned (.bool true) ∧ Below W.heap.size W w'))
    (H1 : Hid (∀ W, Calls Try.prog 40 #[.agg #[.string ⟨#[]⟩, .int .i64 0], .bool false] W fun e w' => e = .returned (.agg (wrA f1)) ∧ Below W.heap.size W w'))
    (H2 : Hid (∀ W, Calls Try.prog 40 #[.agg (wrA f1), .bool false] W fun e w' => e = .returned (.agg #[.string u2, .int .i64 v2]) ∧ Below W.heap.size W w'))
    (H3 : Hid (∀ W0 W sa sb sc, Below W0.heap.size W0 W → Ints W ([] : List Int) sa sb 0 → Calls Try.prog 39 #[.agg #[.string u2, .int .i64 v2], .int .i64 4, .slice sa 0 sc] W fun e w' => e = .returned (.agg #[.string u3, .int .i64 v3]) ∧ Below W0.heap.size W0 w'))
    (H4 : Hid (∀ W0 W, Below W0.heap.size W0 W → Calls Try.prog 38 #[.agg #[.string s, .int .i64 f], .agg #[.string u3, .int .i64 v3]] W fun e w' => e = .returned (.agg #[.string (s ++ u3), .int .i64 0]) ∧ Below W0.heap.size W0 w'))
    : Calls Try.prog 11 #[.agg #[.string s, .int .i64 f], .agg (iA [m0, m1, m2, m3, d0, d1, d2, d3])] w fun e w' => e = .returned (.tuple #[.agg #[.string (s ++ u3), .int .i64 0], .int .i64 0]) ∧ Below w.heap.size w w' := by
  have hq1 : ∀ W : World, (Op.equalIn 10000 28 (.agg #[.int .i64 d0, .int .i64 d1, .int .i64 d2, .int .i64 d3]) (.agg #[.int .i64 0, .int .i64 0, .int .i64 0, .int .i64 0])).run Try.prog W = .ok true W := fun W => by
    rw [← hD]; exact eq4 [d0, d1, d2, d3] [0, 0, 0, 0] rfl rfl W
  have hq2 : ∀ W : World, (Op.equalIn 10000 28 (.agg #[.int .i64 m0, .int .i64 m1, .int .i64 m2, .int .i64 m3]) (.agg #[.int .i64 256, .int .i64 256, .int .i64 256, .int .i64 256])).run Try.prog W = .ok true W := fun W => by
    rw [← hM]; exact eq4 [m0, m1, m2, m3] [256, 256, 256, 256] rfl rfl W
  have HBD := Lib.hid hb
  clear hM hD hb
  go_enter Try.func11, Try.ntmps11
  go_wp2_with (first
    | (refine wl_box 23 _ _ rfl rfl (show _ = Value.agg #[.string s, .int .i64 f] from rfl) ?_; intro W1 bw Bw_1 l1 k1; have gw : w.heap.size ≤ bw := l1; have Hw1 := k1; clear l1 k1)
    | (refine wl_box 30 _ _ rfl rfl (show _ = Value.agg (iA [m0, m1, m2, m3, d0, d1, d2, d3]) from rfl) ?_; intro W2 bm Bm_2 l2 k2; have gm : w.heap.size ≤ bm := Nat.le_trans Hw1.size l2; have nwm : bw ≠ bm := Nat.ne_of_lt (Nat.lt_of_lt_of_le Bw_1.lt l2); have Bw_2 := Bw_1.keep k2; have Hw2 := bq_trans Hw1 k2; clear l2 k2 Bw_1 Hw1)
    | (refine wl_alloc 23 _ zero23 rfl rfl ?_; intro W3 br Br_3 l3 k3; have gr : w.heap.size ≤ br := Nat.le_trans Hw2.size l3; have nwr : bw ≠ br := Nat.ne_of_lt (Nat.lt_of_lt_of_le Bw_2.lt l3); have nmr : bm ≠ br := Nat.ne_of_lt (Nat.lt_of_lt_of_le Bm_2.lt l3); have Bw_3 := Bw_2.keep k3; have Bm_3 := Bm_2.keep k3; have Hw3 := bq_trans Hw2 k3; clear l3 k3 Bw_2 Bm_2 Hw2)
    | (refine wl_load 30 8 _ Try.underlying30 rfl size30 _ rfl rfl _ rfl _ _ Bm_3 rfl ?_)
    | (go_at_call 19; with_reducible refine (HR.out _).mono ?_; rintro e W4 ⟨rfl, k4⟩; have Bw_4 := Bw_3.keep k4; have Bm_4 := Bm_3.keep k4; have Br_4 := Br_3.keep k4; have Hw4 := bq_trans Hw3 k4; clear k4 Bw_3 Bm_3 Br_3 Hw3)
    | (go_at_call 37; with_reducible refine (plaincx_any _).mono ?_; rintro e W5 ⟨rfl, k5⟩; have Bw_5 := Bw_4.keep k5; have Bm_5 := Bm_4.keep k5; have Br_5 := Br_4.keep k5; have Hw5 := bq_trans Hw4 k5; clear k5 Bw_4 Bm_4 Br_4 Hw4)
    | (refine wl_alloc 30 _ zero30 rfl rfl ?_; intro W6 be Be_6 l6 k6; have ge : w.heap.size ≤ be := Nat.le_trans Hw5.size l6; have nwe : bw ≠ be := Nat.ne_of_lt (Nat.lt_of_lt_of_le Bw_5.lt l6); have nme : bm ≠ be := Nat.ne_of_lt (Nat.lt_of_lt_of_le Bm_5.lt l6); have nre : br ≠ be := Nat.ne_of_lt (Nat.lt_of_lt_of_le Br_5.lt l6); have Bw_6 := Bw_5.keep k6; have Bm_6 := Bm_5.keep k6; have Br_6 := Br_5.keep k6; have Hw6 := bq_trans Hw5 k6; clear l6 k6 Bw_5 Bm_5 Br_5 Hw5)
    | (refine wl_store 30 8 size30 _ _ rfl rfl _ rfl (iA [256, 256, 256, 256, 0, 0, 0, 0]) rfl _ _ Be_6 rfl rfl (by kernel_rfl) ?_; intro W7 Be_7 T7; have Bw_7 := T7.blk Bw_6 nwe; have Bm_7 := T7.blk Bm_6 nme; have Br_7 := T7.blk Br_6 nre; have Hw7 := T7.below Hw6 ge; clear T7 Bw_6 Bm_6 Br_6 Be_6 Hw6; have cm_0_7 : W7.cell? ⟨bm, 0, none⟩ = some (.int .i64 m0) := Bm_7.cell 0; have cm_1_7 : W7.cell? ⟨bm, 1, none⟩ = some (.int .i64 m1) := Bm_7.cell 1; have cm_2_7 : W7.cell? ⟨bm, 2, none⟩ = some (.int .i64 m2) := Bm_7.cell 2; have cm_3_7 : W7.cell? ⟨bm, 3, none⟩ = some (.int .i64 m3) := Bm_7.cell 3; have cm_4_7 : W7.cell? ⟨bm, 4, none⟩ = some (.int .i64 d0) := Bm_7.cell 4; have cm_5_7 : W7.cell? ⟨bm, 5, none⟩ = some (.int .i64 d1) := Bm_7.cell 5; have cm_6_7 : W7.cell? ⟨bm, 6, none⟩ = some (.int .i64 d2) := Bm_7.cell 6; have cm_7_7 : W7.cell? ⟨bm, 7, none⟩ = some (.int .i64 d3) := Bm_7.cell 7; have ce_0_7 : W7.cell? ⟨be, 0, none⟩ = some (.int .i64 256) := Be_7.cell 0; have ce_1_7 : W7.cell? ⟨be, 1, none⟩ = some (.int .i64 256) := Be_7.cell 1; have ce_2_7 : W7.cell? ⟨be, 2, none⟩ = some (.int .i64 256) := Be_7.cell 2; have ce_3_7 : W7.cell? ⟨be, 3, none⟩ = some (.int .i64 256) := Be_7.cell 3; have ce_4_7 : W7.cell? ⟨be, 4, none⟩ = some (.int .i64 0) := Be_7.cell 4; have ce_5_7 : W7.cell? ⟨be, 5, none⟩ = some (.int .i64 0) := Be_7.cell 5; have ce_6_7 : W7.cell? ⟨be, 6, none⟩ = some (.int .i64 0) := Be_7.cell 6; have ce_7_7 : W7.cell? ⟨be, 7, none⟩ = some (.int .i64 0) := Be_7.cell 7))
  go_quiet (fail)
  have k8 : Below W7.heap.size W7 (W7.drewN nq) := bq_drewN (bq_refl W7) nq
  generalize W7.drewN nq = W8 at *
  have Bw_8 := Bw_7.keep k8
  have Bm_8 := Bm_7.keep k8
  have Br_8 := Br_7.keep k8
  have Be_8 := Be_7.keep k8
  have Hw8 := bq_trans Hw7 k8
  clear k8 Bw_7 Bm_7 Br_7 Be_7 cm_0_7 cm_1_7 cm_2_7 cm_3_7 cm_4_7 cm_5_7 cm_6_7 cm_7_7 ce_0_7 ce_1_7 ce_2_7 ce_3_7 ce_4_7 ce_5_7 ce_6_7 ce_7_7 Hw7
  clear hq1 hq2
  have ltwW8 : bw < W8.heap.size := Bw_8.lt
  have ltmW8 : bm < W8.heap.size := Bm_8.lt
  have ltrW8 : br < W8.heap.size := Br_8.lt
  have lteW8 : be < W8.heap.size := Be_8.lt
  have W8le : w.heap.size ≤ W8.heap.size := Hw8.size
  have HI := ints_nil W8
  go_wp2_with (first
    | (go_at_call 40; with_reducible refine (H1.out _).mono ?_; rintro e W9 ⟨rfl, k9⟩; have Bw_9 := Bw_8.keep k9; have Bm_9 := Bm_8.keep k9; have Br_9 := Br_8.keep k9; have Be_9 := Be_8.keep k9; have Hw9 := bq_trans Hw8 k9; have HI9 := bq_trans (bq_refl W8) k9; clear k9 Bw_8 Bm_8 Br_8 Be_8 Hw8)
    | (go_at_call 40; with_reducible refine (H2.out _).mono ?_; rintro e W10 ⟨rfl, k10⟩; have Bw_10 := Bw_9.keep k10; have Bm_10 := Bm_9.keep k10; have Br_10 := Br_9.keep k10; have Be_10 := Be_9.keep k10; have Hw10 := bq_trans Hw9 k10; have HI10 := bq_trans HI9 k10; clear k10 Bw_9 Bm_9 Br_9 Be_9 Hw9 HI9)
    | (refine wl_alloc 23 _ zero23 rfl rfl ?_; intro W11 bo Bo_11 l11 k11; have go : w.heap.size ≤ bo := Nat.le_trans Hw10.size l11; have nwo : bw ≠ bo := Nat.ne_of_lt (Nat.lt_of_lt_of_le Bw_10.lt l11); have nmo : bm ≠ bo := Nat.ne_of_lt (Nat.lt_of_lt_of_le Bm_10.lt l11); have nro : br ≠ bo := Nat.ne_of_lt (Nat.lt_of_lt_of_le Br_10.lt l11); have neo : be ≠ bo := Nat.ne_of_lt (Nat.lt_of_lt_of_le Be_10.lt l11); have goI : W8.heap.size ≤ bo := Nat.le_trans HI10.size l11; have Bw_11 := Bw_10.keep k11; have Bm_11 := Bm_10.keep k11; have Br_11 := Br_10.keep k11; have Be_11 := Be_10.keep k11; have Hw11 := bq_trans Hw10 k11; have HI11 := bq_trans HI10 k11; clear l11 k11 Bw_10 Bm_10 Br_10 Be_10 Hw10 HI10)
    | (refine wl_store 23 2 size23 _ _ rfl rfl _ rfl _ rfl _ _ Bo_11 rfl rfl (by kernel_rfl) ?_; intro W12 Bo_12 T12; have Bw_12 := T12.blk Bw_11 nwo; have Bm_12 := T12.blk Bm_11 nmo; have Br_12 := T12.blk Br_11 nro; have Be_12 := T12.blk Be_11 neo; have Hw12 := T12.below Hw11 go; have HI12 := T12.below HI11 goI; clear T12 Bw_11 Bm_11 Br_11 Be_11 Bo_11 Hw11 HI11))
  have BR := Lib.hid Br_12
  have HB := Lib.hid Hw12
  have HI2 := Lib.hid (HI.keep HI12)
  have HC : Hid (∀ w', But br br W12 w' → w'.cell? ⟨bw, 0, none⟩ = some (.string s) ∧ w'.cell? ⟨bw, 1, none⟩ = some (.int .i64 f) ∧ w'.cell? ⟨bo, 0, none⟩ = some (.string u2) ∧ w'.cell? ⟨bo, 1, none⟩ = some (.int .i64 v2)) := Lib.hid fun w' hw' =>
    ⟨(Bw_12.but hw' nwr nwr).cell 0, (Bw_12.but hw' nwr nwr).cell 1, (Bo_12.but hw' (Ne.symm nro) (Ne.symm nro)).cell 0, (Bo_12.but hw' (Ne.symm nro) (Ne.symm nro)).cell 1⟩
  have H3b : Hid (∀ W, Below W12.heap.size W12 W → Calls Try.prog 39 #[.agg #[.string u2, .int .i64 v2], .int .i64 4, .slice none 0 0] W fun e w' => e = .returned (.agg #[.string u3, .int .i64 v3]) ∧ Below W12.heap.size W12 w') := Lib.hid fun W hW => H3.out W12 W none 0 0 hW (HI2.out.keep hW)
  have hd0 : Below W12.heap.size W12 W12.drew := bq_drew (bq_refl W12)
  have g2 := gr
  clear HR H1 H2 H3 HI HBD Bw_12 Bm_12 Br_12 Be_12 Bo_12 Hw12 HI12 neo nme nmo nmr nre nro nwe nwm nwo nwr gw gm gr ge go
  go_region_held3 (fun w' => w'.cell? ⟨bw, 0, none⟩ = some (.string s) ∧ w'.cell? ⟨bw, 1, none⟩ = some (.int .i64 f) ∧ w'.cell? ⟨bo, 0, none⟩ = some (.string u2) ∧ w'.cell? ⟨bo, 1, none⟩ = some (.int .i64 v2))
    ((refine HC.out _ ?_; repeat' (first | exact But.of (by assumption) | exact But.of (bq_drew (bq_refl _)) | refine But.setp _ _ ?_ | refine But.setq _ _ ?_)))
    (first
      | (go_at_call 39; refine (H3b.out _ (by first | assumption | exact bq_refl _)).mono ?_; rintro e w9 ⟨rfl, hb9⟩)
      | (go_at_call 38; refine (H4.out W12 _ (by assumption)).mono ?_; rintro e w10 ⟨rfl, hb10⟩; have d0 := (BR.out.keep hb10).cell 0; have d1 := (BR.out.keep hb10).cell 1; have f0 := (BR.out.keep hb10).frozen 0; have f1 := (BR.out.keep hb10).frozen 1))
  have B9 : Blk ((w10.setCell ⟨br, 0, none⟩ (.string (s ++ u3))).setCell ⟨br, 1, none⟩ (.int .i64 0)) br #[.string (s ++ u3), .int .i64 0] 23 := ((BR.out.keep hb10).set 0 _).set 1 _
  go_wp2
  exact post_cell_tmp (v := .int .i64 0) Try.underlying23 rfl size23 Try.results11 B9 rfl rfl rfl rfl ⟨rfl, bq_set (bq_set (bq_trans HB.out hb10) _ g2 _) _ g2 _⟩
end Go.Proofs.Ytfaipbdkkkhacaa
/- Layer 7: a change behind a writer, way by way. -/
namespace Go.Proofs.Ytfaipbdkkkhacaa
open Go.RowKit
set_option linter.unusedVariables false

set_option maxHeartbeats 4000000 in
theorem putcx_01 (s u2 u3 : ByteArray) (f v2 v3 m0 m1 m2 m3 d0 d1 d2 d3 : Int) (f1 : List (Nat × Nat)) (w : World) (hM : decide ([m0, m1, m2, m3] = [256, 256, 256, 256]) = true) (hD : decide ([d0, d1, d2, d3] = [0, 0, 0, 0]) = false)
    (hb : ∀ v ∈ [m0, m1, m2, m3, d0, d1, d2, d3], -9223372036854775808 ≤ v ∧ v ≤ 9223372036854775807)
    (HR : Hid (∀ W, Calls Try.prog 19 #[.agg (iA [m0, m1, m2, m3, d0, d1, d2, d3])] W fun e w' => e = .returned (.bool true) ∧ Below W.heap.size W w'))
    (H1 : Hid (∀ W, Calls Try.prog 40 #[.agg #[.string ⟨#[]⟩, .int .i64 0], .bool true] W fun e w' => e = .returned (.agg (wrA f1)) ∧ Below W.heap.size W w'))
    (H2 : Hid (∀ W, Calls Try.prog 40 #[.agg (wrA f1), .bool false] W fun e w' => e = .returned (.agg #[.string u2, .int .i64 v2]) ∧ Below W.heap.size W w'))
    (H3 : Hid (∀ W0 W sa sb sc, Below W0.heap.size W0 W → Ints W ([] ++ [d0, d1, d2, d3]) sa sb 0 → Calls Try.prog 39 #[.agg #[.string u2, .int .i64 v2], .int .i64 4, .slice sa 4 sc] W fun e w' => e = .returned (.agg #[.string u3, .int .i64 v3]) ∧ Below W0.heap.size W0 w'))
    (H4 : Hid (∀ W0 W, Below W0.heap.size W0 W → Calls Try.prog 38 #[.agg #[.string s, .int .i64 f], .agg #[.string u3, .int .i64 v3]] W fun e w' => e = .returned (.agg #[.string (s ++ u3), .int .i64 0]) ∧ Below W0.heap.size W0 w'))
    : Calls Try.prog 11 #[.agg #[.string s, .int .i64 f], .agg (iA [m0, m1, m2, m3, d0, d1, d2, d3])] w fun e w' => e = .returned (.tuple #[.agg #[.string (s ++ u3), .int .i64 0], .int .i64 0]) ∧ Below w.heap.size w w' := by
  have hq1 : ∀ W : World, (Op.equalIn 10000 28 (.agg #[.int .i64 d0, .int .i64 d1, .int .i64 d2, .int .i64 d3]) (.agg #[.int .i64 0, .int .i64 0, .int .i64 0, .int .i64 0])).run Try.prog W = .ok false W := fun W => by
    rw [← hD]; exact eq4 [d0, d1, d2, d3] [0, 0, 0, 0] rfl rfl W
  have hq2 : ∀ W : World, (Op.equalIn 10000 28 (.agg #[.int .i64 m0, .int .i64 m1, .int .i64 m2, .int .i64 m3]) (.agg #[.int .i64 256, .int .i64 256, .int .i64 256, .int .i64 256])).run Try.prog W = .ok true W := fun W => by
    rw [← hM]; exact eq4 [m0, m1, m2, m3] [256, 256, 256, 256] rfl rfl W
  have HBD := Lib.hid hb
  clear hM hD hb
  go_enter Try.func11, Try.ntmps11
  go_wp2_with (first
    | (refine wl_box 23 _ _ rfl rfl (show _ = Value.agg #[.string s, .int .i64 f] from rfl) ?_; intro W1 bw Bw_1 l1 k1; have gw : w.heap.size ≤ bw := l1; have Hw1 := k1; clear l1 k1)
    | (refine wl_box 30 _ _ rfl rfl (show _ = Value.agg (iA [m0, m1, m2, m3, d0, d1, d2, d3]) from rfl) ?_; intro W2 bm Bm_2 l2 k2; have gm : w.heap.size ≤ bm := Nat.le_trans Hw1.size l2; have nwm : bw ≠ bm := Nat.ne_of_lt (Nat.lt_of_lt_of_le Bw_1.lt l2); have Bw_2 := Bw_1.keep k2; have Hw2 := bq_trans Hw1 k2; clear l2 k2 Bw_1 Hw1)
    | (refine wl_alloc 23 _ zero23 rfl rfl ?_; intro W3 br Br_3 l3 k3; have gr : w.heap.size ≤ br := Nat.le_trans Hw2.size l3; have nwr : bw ≠ br := Nat.ne_of_lt (Nat.lt_of_lt_of_le Bw_2.lt l3); have nmr : bm ≠ br := Nat.ne_of_lt (Nat.lt_of_lt_of_le Bm_2.lt l3); have Bw_3 := Bw_2.keep k3; have Bm_3 := Bm_2.keep k3; have Hw3 := bq_trans Hw2 k3; clear l3 k3 Bw_2 Bm_2 Hw2)
    | (refine wl_load 30 8 _ Try.underlying30 rfl size30 _ rfl rfl _ rfl _ _ Bm_3 rfl ?_)
    | (go_at_call 19; with_reducible refine (HR.out _).mono ?_; rintro e W4 ⟨rfl, k4⟩; have Bw_4 := Bw_3.keep k4; have Bm_4 := Bm_3.keep k4; have Br_4 := Br_3.keep k4; have Hw4 := bq_trans Hw3 k4; clear k4 Bw_3 Bm_3 Br_3 Hw3)
    | (go_at_call 37; with_reducible refine (plaincx_any _).mono ?_; rintro e W5 ⟨rfl, k5⟩; have Bw_5 := Bw_4.keep k5; have Bm_5 := Bm_4.keep k5; have Br_5 := Br_4.keep k5; have Hw5 := bq_trans Hw4 k5; clear k5 Bw_4 Bm_4 Br_4 Hw4)
    | (refine wl_alloc 30 _ zero30 rfl rfl ?_; intro W6 be Be_6 l6 k6; have ge : w.heap.size ≤ be := Nat.le_trans Hw5.size l6; have nwe : bw ≠ be := Nat.ne_of_lt (Nat.lt_of_lt_of_le Bw_5.lt l6); have nme : bm ≠ be := Nat.ne_of_lt (Nat.lt_of_lt_of_le Bm_5.lt l6); have nre : br ≠ be := Nat.ne_of_lt (Nat.lt_of_lt_of_le Br_5.lt l6); have Bw_6 := Bw_5.keep k6; have Bm_6 := Bm_5.keep k6; have Br_6 := Br_5.keep k6; have Hw6 := bq_trans Hw5 k6; clear l6 k6 Bw_5 Bm_5 Br_5 Hw5)
    | (refine wl_store 30 8 size30 _ _ rfl rfl _ rfl (iA [256, 256, 256, 256, 0, 0, 0, 0]) rfl _ _ Be_6 rfl rfl (by kernel_rfl) ?_; intro W7 Be_7 T7; have Bw_7 := T7.blk Bw_6 nwe; have Bm_7 := T7.blk Bm_6 nme; have Br_7 := T7.blk Br_6 nre; have Hw7 := T7.below Hw6 ge; clear T7 Bw_6 Bm_6 Br_6 Be_6 Hw6; have cm_0_7 : W7.cell? ⟨bm, 0, none⟩ = some (.int .i64 m0) := Bm_7.cell 0; have cm_1_7 : W7.cell? ⟨bm, 1, none⟩ = some (.int .i64 m1) := Bm_7.cell 1; have cm_2_7 : W7.cell? ⟨bm, 2, none⟩ = some (.int .i64 m2) := Bm_7.cell 2; have cm_3_7 : W7.cell? ⟨bm, 3, none⟩ = some (.int .i64 m3) := Bm_7.cell 3; have cm_4_7 : W7.cell? ⟨bm, 4, none⟩ = some (.int .i64 d0) := Bm_7.cell 4; have cm_5_7 : W7.cell? ⟨bm, 5, none⟩ = some (.int .i64 d1) := Bm_7.cell 5; have cm_6_7 : W7.cell? ⟨bm, 6, none⟩ = some (.int .i64 d2) := Bm_7.cell 6; have cm_7_7 : W7.cell? ⟨bm, 7, none⟩ = some (.int .i64 d3) := Bm_7.cell 7; have ce_0_7 : W7.cell? ⟨be, 0, none⟩ = some (.int .i64 256) := Be_7.cell 0; have ce_1_7 : W7.cell? ⟨be, 1, none⟩ = some (.int .i64 256) := Be_7.cell 1; have ce_2_7 : W7.cell? ⟨be, 2, none⟩ = some (.int .i64 256) := Be_7.cell 2; have ce_3_7 : W7.cell? ⟨be, 3, none⟩ = some (.int .i64 256) := Be_7.cell 3; have ce_4_7 : W7.cell? ⟨be, 4, none⟩ = some (.int .i64 0) := Be_7.cell 4; have ce_5_7 : W7.cell? ⟨be, 5, none⟩ = some (.int .i64 0) := Be_7.cell 5; have ce_6_7 : W7.cell? ⟨be, 6, none⟩ = some (.int .i64 0) := Be_7.cell 6; have ce_7_7 : W7.cell? ⟨be, 7, none⟩ = some (.int .i64 0) := Be_7.cell 7))
  go_quiet (fail)
  have k8 : Below W7.heap.size W7 (W7.drewN nq) := bq_drewN (bq_refl W7) nq
  generalize W7.drewN nq = W8 at *
  have Bw_8 := Bw_7.keep k8
  have Bm_8 := Bm_7.keep k8
  have Br_8 := Br_7.keep k8
  have Be_8 := Be_7.keep k8
  have Hw8 := bq_trans Hw7 k8
  clear k8 Bw_7 Bm_7 Br_7 Be_7 cm_0_7 cm_1_7 cm_2_7 cm_3_7 cm_4_7 cm_5_7 cm_6_7 cm_7_7 ce_0_7 ce_1_7 ce_2_7 ce_3_7 ce_4_7 ce_5_7 ce_6_7 ce_7_7 Hw7
  clear hq1 hq2
  have ltwW8 : bw < W8.heap.size := Bw_8.lt
  have ltmW8 : bm < W8.heap.size := Bm_8.lt
  have ltrW8 : br < W8.heap.size := Br_8.lt
  have lteW8 : be < W8.heap.size := Be_8.lt
  have W8le : w.heap.size ≤ W8.heap.size := Hw8.size
  go_wp2_with (first
    | (refine wl_appI _ _ rfl rfl W8.heap.size _ rfl [] (ownI_nil _ _) [d0, d1, d2, d3] bm 4 4 4 rfl rfl (fun i hi => (Bm_8.part 4 rfl (fun v hv => HBD.out v (by simp at hv ⊢; omega))).2.2 i hi) (by simp) (by first | exact Nat.le_refl _ | exact hOl) ?_; intro v1 W9 O1 k9; have Bw_9 := Bw_8.under k9 ltwW8; have Bm_9 := Bm_8.under k9 ltmW8; have Br_9 := Br_8.under k9 ltrW8; have Be_9 := Be_8.under k9 lteW8; have Hw9 := Hw8.trans (k9.mono W8le); obtain ⟨sa, sb, sc, rfl, HI⟩ := O1.intsN (N := 4) rfl (fun v hv => HBD.out v (by simp at hv ⊢; omega)); clear k9 Bw_8 Bm_8 Br_8 Be_8 Hw8)
    | (go_at_call 40; with_reducible refine (H1.out _).mono ?_; rintro e W10 ⟨rfl, k10⟩; have Bw_10 := Bw_9.keep k10; have Bm_10 := Bm_9.keep k10; have Br_10 := Br_9.keep k10; have Be_10 := Be_9.keep k10; have Hw10 := bq_trans Hw9 k10; have HI10 := bq_trans (bq_refl W9) k10; clear k10 Bw_9 Bm_9 Br_9 Be_9 Hw9)
    | (go_at_call 40; with_reducible refine (H2.out _).mono ?_; rintro e W11 ⟨rfl, k11⟩; have Bw_11 := Bw_10.keep k11; have Bm_11 := Bm_10.keep k11; have Br_11 := Br_10.keep k11; have Be_11 := Be_10.keep k11; have Hw11 := bq_trans Hw10 k11; have HI11 := bq_trans HI10 k11; clear k11 Bw_10 Bm_10 Br_10 Be_10 Hw10 HI10)
    | (refine wl_alloc 23 _ zero23 rfl rfl ?_; intro W12 bo Bo_12 l12 k12; have go : w.heap.size ≤ bo := Nat.le_trans Hw11.size l12; have nwo : bw ≠ bo := Nat.ne_of_lt (Nat.lt_of_lt_of_le Bw_11.lt l12); have nmo : bm ≠ bo := Nat.ne_of_lt (Nat.lt_of_lt_of_le Bm_11.lt l12); have nro : br ≠ bo := Nat.ne_of_lt (Nat.lt_of_lt_of_le Br_11.lt l12); have neo : be ≠ bo := Nat.ne_of_lt (Nat.lt_of_lt_of_le Be_11.lt l12); have goI : W9.heap.size ≤ bo := Nat.le_trans HI11.size l12; have Bw_12 := Bw_11.keep k12; have Bm_12 := Bm_11.keep k12; have Br_12 := Br_11.keep k12; have Be_12 := Be_11.keep k12; have Hw12 := bq_trans Hw11 k12; have HI12 := bq_trans HI11 k12; clear l12 k12 Bw_11 Bm_11 Br_11 Be_11 Hw11 HI11)
    | (refine wl_store 23 2 size23 _ _ rfl rfl _ rfl _ rfl _ _ Bo_12 rfl rfl (by kernel_rfl) ?_; intro W13 Bo_13 T13; have Bw_13 := T13.blk Bw_12 nwo; have Bm_13 := T13.blk Bm_12 nmo; have Br_13 := T13.blk Br_12 nro; have Be_13 := T13.blk Be_12 neo; have Hw13 := T13.below Hw12 go; have HI13 := T13.below HI12 goI; clear T13 Bw_12 Bm_12 Br_12 Be_12 Bo_12 Hw12 HI12))
  have BR := Lib.hid Br_13
  have HB := Lib.hid Hw13
  have HI2 := Lib.hid (HI.keep HI13)
  have HC : Hid (∀ w', But br br W13 w' → w'.cell? ⟨bw, 0, none⟩ = some (.string s) ∧ w'.cell? ⟨bw, 1, none⟩ = some (.int .i64 f) ∧ w'.cell? ⟨bo, 0, none⟩ = some (.string u2) ∧ w'.cell? ⟨bo, 1, none⟩ = some (.int .i64 v2)) := Lib.hid fun w' hw' =>
    ⟨(Bw_13.but hw' nwr nwr).cell 0, (Bw_13.but hw' nwr nwr).cell 1, (Bo_13.but hw' (Ne.symm nro) (Ne.symm nro)).cell 0, (Bo_13.but hw' (Ne.symm nro) (Ne.symm nro)).cell 1⟩
  have H3b : Hid (∀ W, Below W13.heap.size W13 W → Calls Try.prog 39 #[.agg #[.string u2, .int .i64 v2], .int .i64 4, .slice sa 4 sc] W fun e w' => e = .returned (.agg #[.string u3, .int .i64 v3]) ∧ Below W13.heap.size W13 w') := Lib.hid fun W hW => H3.out W13 W sa sb sc hW (HI2.out.keep hW)
  have hd0 : Below W13.heap.size W13 W13.drew := bq_drew (bq_refl W13)
  have g2 := gr
  clear HR H1 H2 H3 HI HBD Bw_13 Bm_13 Br_13 Be_13 Bo_13 Hw13 HI13 neo nme nmo nmr nre nro nwe nwm nwo nwr gw gm gr ge go
  go_region_held3 (fun w' => w'.cell? ⟨bw, 0, none⟩ = some (.string s) ∧ w'.cell? ⟨bw, 1, none⟩ = some (.int .i64 f) ∧ w'.cell? ⟨bo, 0, none⟩ = some (.string u2) ∧ w'.cell? ⟨bo, 1, none⟩ = some (.int .i64 v2))
    ((refine HC.out _ ?_; repeat' (first | exact But.of (by assumption) | exact But.of (bq_drew (bq_refl _)) | refine But.setp _ _ ?_ | refine But.setq _ _ ?_)))
    (first
      | (go_at_call 39; refine (H3b.out _ (by first | assumption | exact bq_refl _)).mono ?_; rintro e w9 ⟨rfl, hb9⟩)
      | (go_at_call 38; refine (H4.out W13 _ (by assumption)).mono ?_; rintro e w10 ⟨rfl, hb10⟩; have d0 := (BR.out.keep hb10).cell 0; have d1 := (BR.out.keep hb10).cell 1; have f0 := (BR.out.keep hb10).frozen 0; have f1 := (BR.out.keep hb10).frozen 1))
  have B9 : Blk ((w10.setCell ⟨br, 0, none⟩ (.string (s ++ u3))).setCell ⟨br, 1, none⟩ (.int .i64 0)) br #[.string (s ++ u3), .int .i64 0] 23 := ((BR.out.keep hb10).set 0 _).set 1 _
  go_wp2
  exact post_cell_tmp (v := .int .i64 0) Try.underlying23 rfl size23 Try.results11 B9 rfl rfl rfl rfl ⟨rfl, bq_set (bq_set (bq_trans HB.out hb10) _ g2 _) _ g2 _⟩
end Go.Proofs.Ytfaipbdkkkhacaa
/- Layer 7: a change behind a writer, way by way. -/
namespace Go.Proofs.Ytfaipbdkkkhacaa
open Go.RowKit
set_option linter.unusedVariables false

set_option maxHeartbeats 4000000 in
theorem putcx_10 (s u2 u3 : ByteArray) (f v2 v3 m0 m1 m2 m3 d0 d1 d2 d3 : Int) (f1 : List (Nat × Nat)) (w : World) (hM : decide ([m0, m1, m2, m3] = [256, 256, 256, 256]) = false) (hD : decide ([d0, d1, d2, d3] = [0, 0, 0, 0]) = true)
    (hb : ∀ v ∈ [m0, m1, m2, m3, d0, d1, d2, d3], -9223372036854775808 ≤ v ∧ v ≤ 9223372036854775807)
    (HR : Hid (∀ W, Calls Try.prog 19 #[.agg (iA [m0, m1, m2, m3, d0, d1, d2, d3])] W fun e w' => e = .returned (.bool true) ∧ Below W.heap.size W w'))
    (H1 : Hid (∀ W, Calls Try.prog 40 #[.agg #[.string ⟨#[]⟩, .int .i64 0], .bool false] W fun e w' => e = .returned (.agg (wrA f1)) ∧ Below W.heap.size W w'))
    (H2 : Hid (∀ W, Calls Try.prog 40 #[.agg (wrA f1), .bool true] W fun e w' => e = .returned (.agg #[.string u2, .int .i64 v2]) ∧ Below W.heap.size W w'))
    (H3 : Hid (∀ W0 W sa sb sc, Below W0.heap.size W0 W → Ints W ([] ++ [m0, m1, m2, m3]) sa sb 0 → Calls Try.prog 39 #[.agg #[.string u2, .int .i64 v2], .int .i64 4, .slice sa 4 sc] W fun e w' => e = .returned (.agg #[.string u3, .int .i64 v3]) ∧ Below W0.heap.size W0 w'))
    (H4 : Hid (∀ W0 W, Below W0.heap.size W0 W → Calls Try.prog 38 #[.agg #[.string s, .int .i64 f], .agg #[.string u3, .int .i64 v3]] W fun e w' => e = .returned (.agg #[.string (s ++ u3), .int .i64 0]) ∧ Below W0.heap.size W0 w'))
    : Calls Try.prog 11 #[.agg #[.string s, .int .i64 f], .agg (iA [m0, m1, m2, m3, d0, d1, d2, d3])] w fun e w' => e = .returned (.tuple #[.agg #[.string (s ++ u3), .int .i64 0], .int .i64 0]) ∧ Below w.heap.size w w' := by
  have hq1 : ∀ W : World, (Op.equalIn 10000 28 (.agg #[.int .i64 d0, .int .i64 d1, .int .i64 d2, .int .i64 d3]) (.agg #[.int .i64 0, .int .i64 0, .int .i64 0, .int .i64 0])).run Try.prog W = .ok true W := fun W => by
    rw [← hD]; exact eq4 [d0, d1, d2, d3] [0, 0, 0, 0] rfl rfl W
  have hq2 : ∀ W : World, (Op.equalIn 10000 28 (.agg #[.int .i64 m0, .int .i64 m1, .int .i64 m2, .int .i64 m3]) (.agg #[.int .i64 256, .int .i64 256, .int .i64 256, .int .i64 256])).run Try.prog W = .ok false W := fun W => by
    rw [← hM]; exact eq4 [m0, m1, m2, m3] [256, 256, 256, 256] rfl rfl W
  have HBD := Lib.hid hb
  clear hM hD hb
  go_enter Try.func11, Try.ntmps11
  go_wp2_with (first
    | (refine wl_box 23 _ _ rfl rfl (show _ = Value.agg #[.string s, .int .i64 f] from rfl) ?_; intro W1 bw Bw_1 l1 k1; have gw : w.heap.size ≤ bw := l1; have Hw1 := k1; clear l1 k1)
    | (refine wl_box 30 _ _ rfl rfl (show _ = Value.agg (iA [m0, m1, m2, m3, d0, d1, d2, d3]) from rfl) ?_; intro W2 bm Bm_2 l2 k2; have gm : w.heap.size ≤ bm := Nat.le_trans Hw1.size l2; have nwm : bw ≠ bm := Nat.ne_of_lt (Nat.lt_of_lt_of_le Bw_1.lt l2); have Bw_2 := Bw_1.keep k2; have Hw2 := bq_trans Hw1 k2; clear l2 k2 Bw_1 Hw1)
    | (refine wl_alloc 23 _ zero23 rfl rfl ?_; intro W3 br Br_3 l3 k3; have gr : w.heap.size ≤ br := Nat.le_trans Hw2.size l3; have nwr : bw ≠ br := Nat.ne_of_lt (Nat.lt_of_lt_of_le Bw_2.lt l3); have nmr : bm ≠ br := Nat.ne_of_lt (Nat.lt_of_lt_of_le Bm_2.lt l3); have Bw_3 := Bw_2.keep k3; have Bm_3 := Bm_2.keep k3; have Hw3 := bq_trans Hw2 k3; clear l3 k3 Bw_2 Bm_2 Hw2)
    | (refine wl_load 30 8 _ Try.underlying30 rfl size30 _ rfl rfl _ rfl _ _ Bm_3 rfl ?_)
    | (go_at_call 19; with_reducible refine (HR.out _).mono ?_; rintro e W4 ⟨rfl, k4⟩; have Bw_4 := Bw_3.keep k4; have Bm_4 := Bm_3.keep k4; have Br_4 := Br_3.keep k4; have Hw4 := bq_trans Hw3 k4; clear k4 Bw_3 Bm_3 Br_3 Hw3)
    | (go_at_call 37; with_reducible refine (plaincx_any _).mono ?_; rintro e W5 ⟨rfl, k5⟩; have Bw_5 := Bw_4.keep k5; have Bm_5 := Bm_4.keep k5; have Br_5 := Br_4.keep k5; have Hw5 := bq_trans Hw4 k5; clear k5 Bw_4 Bm_4 Br_4 Hw4)
    | (refine wl_alloc 30 _ zero30 rfl rfl ?_; intro W6 be Be_6 l6 k6; have ge : w.heap.size ≤ be := Nat.le_trans Hw5.size l6; have nwe : bw ≠ be := Nat.ne_of_lt (Nat.lt_of_lt_of_le Bw_5.lt l6); have nme : bm ≠ be := Nat.ne_of_lt (Nat.lt_of_lt_of_le Bm_5.lt l6); have nre : br ≠ be := Nat.ne_of_lt (Nat.lt_of_lt_of_le Br_5.lt l6); have Bw_6 := Bw_5.keep k6; have Bm_6 := Bm_5.keep k6; have Br_6 := Br_5.keep k6; have Hw6 := bq_trans Hw5 k6; clear l6 k6 Bw_5 Bm_5 Br_5 Hw5)
    | (refine wl_store 30 8 size30 _ _ rfl rfl _ rfl (iA [256, 256, 256, 256, 0, 0, 0, 0]) rfl _ _ Be_6 rfl rfl (by kernel_rfl) ?_; intro W7 Be_7 T7; have Bw_7 := T7.blk Bw_6 nwe; have Bm_7 := T7.blk Bm_6 nme; have Br_7 := T7.blk Br_6 nre; have Hw7 := T7.below Hw6 ge; clear T7 Bw_6 Bm_6 Br_6 Be_6 Hw6; have cm_0_7 : W7.cell? ⟨bm, 0, none⟩ = some (.int .i64 m0) := Bm_7.cell 0; have cm_1_7 : W7.cell? ⟨bm, 1, none⟩ = some (.int .i64 m1) := Bm_7.cell 1; have cm_2_7 : W7.cell? ⟨bm, 2, none⟩ = some (.int .i64 m2) := Bm_7.cell 2; have cm_3_7 : W7.cell? ⟨bm, 3, none⟩ = some (.int .i64 m3) := Bm_7.cell 3; have cm_4_7 : W7.cell? ⟨bm, 4, none⟩ = some (.int .i64 d0) := Bm_7.cell 4; have cm_5_7 : W7.cell? ⟨bm, 5, none⟩ = some (.int .i64 d1) := Bm_7.cell 5; have cm_6_7 : W7.cell? ⟨bm, 6, none⟩ = some (.int .i64 d2) := Bm_7.cell 6; have cm_7_7 : W7.cell? ⟨bm, 7, none⟩ = some (.int .i64 d3) := Bm_7.cell 7; have ce_0_7 : W7.cell? ⟨be, 0, none⟩ = some (.int .i64 256) := Be_7.cell 0; have ce_1_7 : W7.cell? ⟨be, 1, none⟩ = some (.int .i64 256) := Be_7.cell 1; have ce_2_7 : W7.cell? ⟨be, 2, none⟩ = some (.int .i64 256) := Be_7.cell 2; have ce_3_7 : W7.cell? ⟨be, 3, none⟩ = some (.int .i64 256) := Be_7.cell 3; have ce_4_7 : W7.cell? ⟨be, 4, none⟩ = some (.int .i64 0) := Be_7.cell 4; have ce_5_7 : W7.cell? ⟨be, 5, none⟩ = some (.int .i64 0) := Be_7.cell 5; have ce_6_7 : W7.cell? ⟨be, 6, none⟩ = some (.int .i64 0) := Be_7.cell 6; have ce_7_7 : W7.cell? ⟨be, 7, none⟩ = some (.int .i64 0) := Be_7.cell 7))
  go_quiet (fail)
  have k8 : Below W7.heap.size W7 (W7.drewN nq) := bq_drewN (bq_refl W7) nq
  generalize W7.drewN nq = W8 at *
  have Bw_8 := Bw_7.keep k8
  have Bm_8 := Bm_7.keep k8
  have Br_8 := Br_7.keep k8
  have Be_8 := Be_7.keep k8
  have Hw8 := bq_trans Hw7 k8
  clear k8 Bw_7 Bm_7 Br_7 Be_7 cm_0_7 cm_1_7 cm_2_7 cm_3_7 cm_4_7 cm_5_7 cm_6_7 cm_7_7 ce_0_7 ce_1_7 ce_2_7 ce_3_7 ce_4_7 ce_5_7 ce_6_7 ce_7_7 Hw7
  clear hq1 hq2
  have ltwW8 : bw < W8.heap.size := Bw_8.lt
  have ltmW8 : bm < W8.heap.size := Bm_8.lt
  have ltrW8 : br < W8.heap.size := Br_8.lt
  have lteW8 : be < W8.heap.size := Be_8.lt
  have W8le : w.heap.size ≤ W8.heap.size := Hw8.size
  go_wp2_with (first
    | (refine wl_appI _ _ rfl rfl W8.heap.size _ rfl [] (ownI_nil _ _) [m0, m1, m2, m3] bm 0 4 4 rfl rfl (fun i hi => (Bm_8.part 0 rfl (fun v hv => HBD.out v (by simp at hv ⊢; omega))).2.2 i hi) (by simp) (by first | exact Nat.le_refl _ | exact hOl) ?_; intro v1 W9 O1 k9; have Bw_9 := Bw_8.under k9 ltwW8; have Bm_9 := Bm_8.under k9 ltmW8; have Br_9 := Br_8.under k9 ltrW8; have Be_9 := Be_8.under k9 lteW8; have Hw9 := Hw8.trans (k9.mono W8le); obtain ⟨sa, sb, sc, rfl, HI⟩ := O1.intsN (N := 4) rfl (fun v hv => HBD.out v (by simp at hv ⊢; omega)); clear k9 Bw_8 Bm_8 Br_8 Be_8 Hw8)
    | (go_at_call 40; with_reducible refine (H1.out _).mono ?_; rintro e W10 ⟨rfl, k10⟩; have Bw_10 := Bw_9.keep k10; have Bm_10 := Bm_9.keep k10; have Br_10 := Br_9.keep k10; have Be_10 := Be_9.keep k10; have Hw10 := bq_trans Hw9 k10; have HI10 := bq_trans (bq_refl W9) k10; clear k10 Bw_9 Bm_9 Br_9 Be_9 Hw9)
    | (go_at_call 40; with_reducible refine (H2.out _).mono ?_; rintro e W11 ⟨rfl, k11⟩; have Bw_11 := Bw_10.keep k11; have Bm_11 := Bm_10.keep k11; have Br_11 := Br_10.keep k11; have Be_11 := Be_10.keep k11; have Hw11 := bq_trans Hw10 k11; have HI11 := bq_trans HI10 k11; clear k11 Bw_10 Bm_10 Br_10 Be_10 Hw10 HI10)
    | (refine wl_alloc 23 _ zero23 rfl rfl ?_; intro W12 bo Bo_12 l12 k12; have go : w.heap.size ≤ bo := Nat.le_trans Hw11.size l12; have nwo : bw ≠ bo := Nat.ne_of_lt (Nat.lt_of_lt_of_le Bw_11.lt l12); have nmo : bm ≠ bo := Nat.ne_of_lt (Nat.lt_of_lt_of_le Bm_11.lt l12); have nro : br ≠ bo := Nat.ne_of_lt (Nat.lt_of_lt_of_le Br_11.lt l12); have neo : be ≠ bo := Nat.ne_of_lt (Nat.lt_of_lt_of_le Be_11.lt l12); have goI : W9.heap.size ≤ bo := Nat.le_trans HI11.size l12; have Bw_12 := Bw_11.keep k12; have Bm_12 := Bm_11.keep k12; have Br_12 := Br_11.keep k12; have Be_12 := Be_11.keep k12; have Hw12 := bq_trans Hw11 k12; have HI12 := bq_trans HI11 k12; clear l12 k12 Bw_11 Bm_11 Br_11 Be_11 Hw11 HI11)
    | (refine wl_store 23 2 size23 _ _ rfl rfl _ rfl _ rfl _ _ Bo_12 rfl rfl (by kernel_rfl) ?_; intro W13 Bo_13 T13; have Bw_13 := T13.blk Bw_12 nwo; have Bm_13 := T13.blk Bm_12 nmo; have Br_13 := T13.blk Br_12 nro; have Be_13 := T13.blk Be_12 neo; have Hw13 := T13.below Hw12 go; have HI13 := T13.below HI12 goI; clear T13 Bw_12 Bm_12 Br_12 Be_12 Bo_12 Hw12 HI12))
  have BR := Lib.hid Br_13
  have HB := Lib.hid Hw13
  have HI2 := Lib.hid (HI.keep HI13)
  have HC : Hid (∀ w', But br br W13 w' → w'.cell? ⟨bw, 0, none⟩ = some (.string s) ∧ w'.cell? ⟨bw, 1, none⟩ = some (.int .i64 f) ∧ w'.cell? ⟨bo, 0, none⟩ = some (.string u2) ∧ w'.cell? ⟨bo, 1, none⟩ = some (.int .i64 v2)) := Lib.hid fun w' hw' =>
    ⟨(Bw_13.but hw' nwr nwr).cell 0, (Bw_13.but hw' nwr nwr).cell 1, (Bo_13.but hw' (Ne.symm nro) (Ne.symm nro)).cell 0, (Bo_13.but hw' (Ne.symm nro) (Ne.symm nro)).cell 1⟩
  have H3b : Hid (∀ W, Below W13.heap.size W13 W → Calls Try.prog 39 #[.agg #[.string u2, .int .i64 v2], .int .i64 4, .slice sa 4 sc] W fun e w' => e = .returned (.agg #[.string u3, .int .i64 v3]) ∧ Below W13.heap.size W13 w') := Lib.hid fun W hW => H3.out W13 W sa sb sc hW (HI2.out.keep hW)
  have hd0 : Below W13.heap.size W13 W13.drew := bq_drew (bq_refl W13)
  have g2 := gr
  clear HR H1 H2 H3 HI HBD Bw_13 Bm_13 Br_13 Be_13 Bo_13 Hw13 HI13 neo nme nmo nmr nre nro nwe nwm nwo nwr gw gm gr ge go
  go_region_held3 (fun w' => w'.cell? ⟨bw, 0, none⟩ = some (.string s) ∧ w'.cell? ⟨bw, 1, none⟩ = some (.int .i64 f) ∧ w'.cell? ⟨bo, 0, none⟩ = some (.string u2) ∧ w'.cell? ⟨bo, 1, none⟩ = some (.int .i64 v2))
    ((refine HC.out _ ?_; repeat' (first | exact But.of (by assumption) | exact But.of (bq_drew (bq_refl _)) | refine But.setp _ _ ?_ | refine But.setq _ _ ?_)))
    (first
      | (go_at_call 39; refine (H3b.out _ (by first | assumption | exact bq_refl _)).mono ?_; rintro e w9 ⟨rfl, hb9⟩)
      | (go_at_call 38; refine (H4.out W13 _ (by assumption)).mono ?_; rintro e w10 ⟨rfl, hb10⟩; have d0 := (BR.out.keep hb10).cell 0; have d1 := (BR.out.keep hb10).cell 1; have f0 := (BR.out.keep hb10).frozen 0; have f1 := (BR.out.keep hb10).frozen 1))
  have B9 : Blk ((w10.setCell ⟨br, 0, none⟩ (.string (s ++ u3))).setCell ⟨br, 1, none⟩ (.int .i64 0)) br #[.string (s ++ u3), .int .i64 0] 23 := ((BR.out.keep hb10).set 0 _).set 1 _
  go_wp2
  exact post_cell_tmp (v := .int .i64 0) Try.underlying23 rfl size23 Try.results11 B9 rfl rfl rfl rfl ⟨rfl, bq_set (bq_set (bq_trans HB.out hb10) _ g2 _) _ g2 _⟩
end Go.Proofs.Ytfaipbdkkkhacaa
/- Layer 7: a change behind a writer, way by way. -/
namespace Go.Proofs.Ytfaipbdkkkhacaa
open Go.RowKit
set_option linter.unusedVariables false

set_option maxHeartbeats 4000000 in
theorem putcx_11 (s u2 u3 : ByteArray) (f v2 v3 m0 m1 m2 m3 d0 d1 d2 d3 : Int) (f1 : List (Nat × Nat)) (w : World) (hM : decide ([m0, m1, m2, m3] = [256, 256, 256, 256]) = false) (hD : decide ([d0, d1, d2, d3] = [0, 0, 0, 0]) = false)
    (hb : ∀ v ∈ [m0, m1, m2, m3, d0, d1, d2, d3], -9223372036854775808 ≤ v ∧ v ≤ 9223372036854775807)
    (HR : Hid (∀ W, Calls Try.prog 19 #[.agg (iA [m0, m1, m2, m3, d0, d1, d2, d3])] W fun e w' => e = .returned (.bool true) ∧ Below W.heap.size W w'))
    (H1 : Hid (∀ W, Calls Try.prog 40 #[.agg #[.string ⟨#[]⟩, .int .i64 0], .bool true] W fun e w' => e = .returned (.agg (wrA f1)) ∧ Below W.heap.size W w'))
    (H2 : Hid (∀ W, Calls Try.prog 40 #[.agg (wrA f1), .bool true] W fun e w' => e = .returned (.agg #[.string u2, .int .i64 v2]) ∧ Below W.heap.size W w'))
    (H3 : Hid (∀ W0 W sa sb sc, Below W0.heap.size W0 W → Ints W ([] ++ [m0, m1, m2, m3] ++ [d0, d1, d2, d3]) sa sb 0 → Calls Try.prog 39 #[.agg #[.string u2, .int .i64 v2], .int .i64 4, .slice sa 8 sc] W fun e w' => e = .returned (.agg #[.string u3, .int .i64 v3]) ∧ Below W0.heap.size W0 w'))
    (H4 : Hid (∀ W0 W, Below W0.heap.size W0 W → Calls Try.prog 38 #[.agg #[.string s, .int .i64 f], .agg #[.string u3, .int .i64 v3]] W fun e w' => e = .returned (.agg #[.string (s ++ u3), .int .i64 0]) ∧ Below W0.heap.size W0 w'))
    : Calls Try.prog 11 #[.agg #[.string s, .int .i64 f], .agg (iA [m0, m1, m2, m3, d0, d1, d2, d3])] w fun e w' => e = .returned (.tuple #[.agg #[.string (s ++ u3), .int .i64 0], .int .i64 0]) ∧ Below w.heap.size w w' := by
  have hq1 : ∀ W : World, (Op.equalIn 10000 28 (.agg #[.int .i64 d0, .int .i64 d1, .int .i64 d2, .int .i64 d3]) (.agg #[.int .i64 0, .int .i64 0, .int .i64 0, .int .i64 0])).run Try.prog W = .ok false W := fun W => by
    rw [← hD]; exact eq4 [d0, d1, d2, d3] [0, 0, 0, 0] rfl rfl W
  have hq2 : ∀ W : World, (Op.equalIn 10000 28 (.agg #[.int .i64 m0, .int .i64 m1, .int .i64 m2, .int .i64 m3]) (.agg #[.int .i64 256, .int .i64 256, .int .i64 256, .int .i64 256])).run Try.prog W = .ok false W := fun W => by
    rw [← hM]; exact eq4 [m0, m1, m2, m3] [256, 256, 256, 256] rfl rfl W
  have HBD := Lib.hid hb
  clear hM hD hb
  go_enter Try.func11, Try.ntmps11
  go_wp2_with (first
    | (refine wl_box 23 _ _ rfl rfl (show _ = Value.agg #[.string s, .int .i64 f] from rfl) ?_; intro W1 bw Bw_1 l1 k1; have gw : w.heap.size ≤ bw := l1; have Hw1 := k1; clear l1 k1)
    | (refine wl_box 30 _ _ rfl rfl (show _ = Value.agg (iA [m0, m1, m2, m3, d0, d1, d2, d3]) from rfl) ?_; intro W2 bm Bm_2 l2 k2; have gm : w.heap.size ≤ bm := Nat.le_trans Hw1.size l2; have nwm : bw ≠ bm := Nat.ne_of_lt (Nat.lt_of_lt_of_le Bw_1.lt l2); have Bw_2 := Bw_1.keep k2; have Hw2 := bq_trans Hw1 k2; clear l2 k2 Bw_1 Hw1)
    | (refine wl_alloc 23 _ zero23 rfl rfl ?_; intro W3 br Br_3 l3 k3; have gr : w.heap.size ≤ br := Nat.le_trans Hw2.size l3; have nwr : bw ≠ br := Nat.ne_of_lt (Nat.lt_of_lt_of_le Bw_2.lt l3); have nmr : bm ≠ br := Nat.ne_of_lt (Nat.lt_of_lt_of_le Bm_2.lt l3); have Bw_3 := Bw_2.keep k3; have Bm_3 := Bm_2.keep k3; have Hw3 := bq_trans Hw2 k3; clear l3 k3 Bw_2 Bm_2 Hw2)
    | (refine wl_load 30 8 _ Try.underlying30 rfl size30 _ rfl rfl _ rfl _ _ Bm_3 rfl ?_)
    | (go_at_call 19; with_reducible refine (HR.out _).mono ?_; rintro e W4 ⟨rfl, k4⟩; have Bw_4 := Bw_3.keep k4; have Bm_4 := Bm_3.keep k4; have Br_4 := Br_3.keep k4; have Hw4 := bq_trans Hw3 k4; clear k4 Bw_3 Bm_3 Br_3 Hw3)
    | (go_at_call 37; with_reducible refine (plaincx_any _).mono ?_; rintro e W5 ⟨rfl, k5⟩; have Bw_5 := Bw_4.keep k5; have Bm_5 := Bm_4.keep k5; have Br_5 := Br_4.keep k5; have Hw5 := bq_trans Hw4 k5; clear k5 Bw_4 Bm_4 Br_4 Hw4)
    | (refine wl_alloc 30 _ zero30 rfl rfl ?_; intro W6 be Be_6 l6 k6; have ge : w.heap.size ≤ be := Nat.le_trans Hw5.size l6; have nwe : bw ≠ be := Nat.ne_of_lt (Nat.lt_of_lt_of_le Bw_5.lt l6); have nme : bm ≠ be := Nat.ne_of_lt (Nat.lt_of_lt_of_le Bm_5.lt l6); have nre : br ≠ be := Nat.ne_of_lt (Nat.lt_of_lt_of_le Br_5.lt l6); have Bw_6 := Bw_5.keep k6; have Bm_6 := Bm_5.keep k6; have Br_6 := Br_5.keep k6; have Hw6 := bq_trans Hw5 k6; clear l6 k6 Bw_5 Bm_5 Br_5 Hw5)
    | (refine wl_store 30 8 size30 _ _ rfl rfl _ rfl (iA [256, 256, 256, 256, 0, 0, 0, 0]) rfl _ _ Be_6 rfl rfl (by kernel_rfl) ?_; intro W7 Be_7 T7; have Bw_7 := T7.blk Bw_6 nwe; have Bm_7 := T7.blk Bm_6 nme; have Br_7 := T7.blk Br_6 nre; have Hw7 := T7.below Hw6 ge; clear T7 Bw_6 Bm_6 Br_6 Be_6 Hw6; have cm_0_7 : W7.cell? ⟨bm, 0, none⟩ = some (.int .i64 m0) := Bm_7.cell 0; have cm_1_7 : W7.cell? ⟨bm, 1, none⟩ = some (.int .i64 m1) := Bm_7.cell 1; have cm_2_7 : W7.cell? ⟨bm, 2, none⟩ = some (.int .i64 m2) := Bm_7.cell 2; have cm_3_7 : W7.cell? ⟨bm, 3, none⟩ = some (.int .i64 m3) := Bm_7.cell 3; have cm_4_7 : W7.cell? ⟨bm, 4, none⟩ = some (.int .i64 d0) := Bm_7.cell 4; have cm_5_7 : W7.cell? ⟨bm, 5, none⟩ = some (.int .i64 d1) := Bm_7.cell 5; have cm_6_7 : W7.cell? ⟨bm, 6, none⟩ = some (.int .i64 d2) := Bm_7.cell 6; have cm_7_7 : W7.cell? ⟨bm, 7, none⟩ = some (.int .i64 d3) := Bm_7.cell 7; have ce_0_7 : W7.cell? ⟨be, 0, none⟩ = some (.int .i64 256) := Be_7.cell 0; have ce_1_7 : W7.cell? ⟨be, 1, none⟩ = some (.int .i64 256) := Be_7.cell 1; have ce_2_7 : W7.cell? ⟨be, 2, none⟩ = some (.int .i64 256) := Be_7.cell 2; have ce_3_7 : W7.cell? ⟨be, 3, none⟩ = some (.int .i64 256) := Be_7.cell 3; have ce_4_7 : W7.cell? ⟨be, 4, none⟩ = some (.int .i64 0) := Be_7.cell 4; have ce_5_7 : W7.cell? ⟨be, 5, none⟩ = some (.int .i64 0) := Be_7.cell 5; have ce_6_7 : W7.cell? ⟨be, 6, none⟩ = some (.int .i64 0) := Be_7.cell 6; have ce_7_7 : W7.cell? ⟨be, 7, none⟩ = some (.int .i64 0) := Be_7.cell 7))
  go_quiet (fail)
  have k8 : Below W7.heap.size W7 (W7.drewN nq) := bq_drewN (bq_refl W7) nq
  generalize W7.drewN nq = W8 at *
  have Bw_8 := Bw_7.keep k8
  have Bm_8 := Bm_7.keep k8
  have Br_8 := Br_7.keep k8
  have Be_8 := Be_7.keep k8
  have Hw8 := bq_trans Hw7 k8
  clear k8 Bw_7 Bm_7 Br_7 Be_7 cm_0_7 cm_1_7 cm_2_7 cm_3_7 cm_4_7 cm_5_7 cm_6_7 cm_7_7 ce_0_7 ce_1_7 ce_2_7 ce_3_7 ce_4_7 ce_5_7 ce_6_7 ce_7_7 Hw7
  clear hq1 hq2
  have ltwW8 : bw < W8.heap.size := Bw_8.lt
  have ltmW8 : bm < W8.heap.size := Bm_8.lt
  have ltrW8 : br < W8.heap.size := Br_8.lt
  have lteW8 : be < W8.heap.size := Be_8.lt
  have W8le : w.heap.size ≤ W8.heap.size := Hw8.size
  go_wp2_with (first
    | (refine wl_appI _ _ rfl rfl W8.heap.size _ rfl [] (ownI_nil _ _) [m0, m1, m2, m3] bm 0 4 4 rfl rfl (fun i hi => (Bm_8.part 0 rfl (fun v hv => HBD.out v (by simp at hv ⊢; omega))).2.2 i hi) (by simp) (by first | exact Nat.le_refl _ | exact hOl) ?_; intro v1 W9 O1 k9; have Bw_9 := Bw_8.under k9 ltwW8; have Bm_9 := Bm_8.under k9 ltmW8; have Br_9 := Br_8.under k9 ltrW8; have Be_9 := Be_8.under k9 lteW8; have Hw9 := Hw8.trans (k9.mono W8le); have hOl := k9.size; clear k9 Bw_8 Bm_8 Br_8 Be_8 Hw8)
    | (refine wl_appI _ _ rfl rfl W8.heap.size _ rfl ([] ++ [m0, m1, m2, m3]) O1 [d0, d1, d2, d3] bm 4 4 4 rfl rfl (fun i hi => (Bm_9.part 4 rfl (fun v hv => HBD.out v (by simp at hv ⊢; omega))).2.2 i hi) (by simp) (by first | exact Nat.le_refl _ | exact hOl) ?_; intro v2 W10 O2 k10; have Bw_10 := Bw_9.under k10 ltwW8; have Bm_10 := Bm_9.under k10 ltmW8; have Br_10 := Br_9.under k10 ltrW8; have Be_10 := Be_9.under k10 lteW8; have Hw10 := Hw9.trans (k10.mono W8le); obtain ⟨sa, sb, sc, rfl, HI⟩ := O2.intsN (N := 8) rfl (fun v hv => HBD.out v (by simp at hv ⊢; omega)); clear k10 Bw_9 Bm_9 Br_9 Be_9 Hw9)
    | (go_at_call 40; with_reducible refine (H1.out _).mono ?_; rintro e W11 ⟨rfl, k11⟩; have Bw_11 := Bw_10.keep k11; have Bm_11 := Bm_10.keep k11; have Br_11 := Br_10.keep k11; have Be_11 := Be_10.keep k11; have Hw11 := bq_trans Hw10 k11; have HI11 := bq_trans (bq_refl W10) k11; clear k11 Bw_10 Bm_10 Br_10 Be_10 Hw10)
    | (go_at_call 40; with_reducible refine (H2.out _).mono ?_; rintro e W12 ⟨rfl, k12⟩; have Bw_12 := Bw_11.keep k12; have Bm_12 := Bm_11.keep k12; have Br_12 := Br_11.keep k12; have Be_12 := Be_11.keep k12; have Hw12 := bq_trans Hw11 k12; have HI12 := bq_trans HI11 k12; clear k12 Bw_11 Bm_11 Br_11 Be_11 Hw11 HI11)
    | (refine wl_alloc 23 _ zero23 rfl rfl ?_; intro W13 bo Bo_13 l13 k13; have go : w.heap.size ≤ bo := Nat.le_trans Hw12.size l13; have nwo : bw ≠ bo := Nat.ne_of_lt (Nat.lt_of_lt_of_le Bw_12.lt l13); have nmo : bm ≠ bo := Nat.ne_of_lt (Nat.lt_of_lt_of_le Bm_12.lt l13); have nro : br ≠ bo := Nat.ne_of_lt (Nat.lt_of_lt_of_le Br_12.lt l13); have neo : be ≠ bo := Nat.ne_of_lt (Nat.lt_of_lt_of_le Be_12.lt l13); have goI : W10.heap.size ≤ bo := Nat.le_trans HI12.size l13; have Bw_13 := Bw_12.keep k13; have Bm_13 := Bm_12.keep k13; have Br_13 := Br_12.keep k13; have Be_13 := Be_12.keep k13; have Hw13 := bq_trans Hw12 k13; have HI13 := bq_trans HI12 k13; clear l13 k13 Bw_12 Bm_12 Br_12 Be_12 Hw12 HI12)
    | (refine wl_store 23 2 size23 _ _ rfl rfl _ rfl _ rfl _ _ Bo_13 rfl rfl (by kernel_rfl) ?_; intro W14 Bo_14 T14; have Bw_14 := T14.blk Bw_13 nwo; have Bm_14 := T14.blk Bm_13 nmo; have Br_14 := T14.blk Br_13 nro; have Be_14 := T14.blk Be_13 neo; have Hw14 := T14.below Hw13 go; have HI14 := T14.below HI13 goI; clear T14 Bw_13 Bm_13 Br_13 Be_13 Bo_13 Hw13 HI13))
  have BR := Lib.hid Br_14
  have HB := Lib.hid Hw14
  have HI2 := Lib.hid (HI.keep HI14)
  have HC : Hid (∀ w', But br br W14 w' → w'.cell? ⟨bw, 0, none⟩ = some (.string s) ∧ w'.cell? ⟨bw, 1, none⟩ = some (.int .i64 f) ∧ w'.cell? ⟨bo, 0, none⟩ = some (.string u2) ∧ w'.cell? ⟨bo, 1, none⟩ = some (.int .i64 v2)) := Lib.hid fun w' hw' =>
    ⟨(Bw_14.but hw' nwr nwr).cell 0, (Bw_14.but hw' nwr nwr).cell 1, (Bo_14.but hw' (Ne.symm nro) (Ne.symm nro)).cell 0, (Bo_14.but hw' (Ne.symm nro) (Ne.symm nro)).cell 1⟩
  have H3b : Hid (∀ W, Below W14.heap.size W14 W → Calls Try.prog 39 #[.agg #[.string u2, .int .i64 v2], .int .i64 4, .slice sa 8 sc] W fun e w' => e = .returned (.agg #[.string u3, .int .i64 v3]) ∧ Below W14.heap.size W14 w') := Lib.hid fun W hW => H3.out W14 W sa sb sc hW (HI2.out.keep hW)
  have hd0 : Below W14.heap.size W14 W14.drew := bq_drew (bq_refl W14)
  have g2 := gr
  clear HR H1 H2 H3 HI HBD Bw_14 Bm_14 Br_14 Be_14 Bo_14 Hw14 HI14 neo nme nmo nmr nre nro nwe nwm nwo nwr gw gm gr ge go
  go_region_held3 (fun w' => w'.cell? ⟨bw, 0, none⟩ = some (.string s) ∧ w'.cell? ⟨bw, 1, none⟩ = some (.int .i64 f) ∧ w'.cell? ⟨bo, 0, none⟩ = some (.string u2) ∧ w'.cell? ⟨bo, 1, none⟩ = some (.int .i64 v2))
    ((refine HC.out _ ?_; repeat' (first | exact But.of (by assumption) | exact But.of (bq_drew (bq_refl _)) | refine But.setp _ _ ?_ | refine But.setq _ _ ?_)))
    (first
      | (go_at_call 39; refine (H3b.out _ (by first | assumption | exact bq_refl _)).mono ?_; rintro e w9 ⟨rfl, hb9⟩)
      | (go_at_call 38; refine (H4.out W14 _ (by assumption)).mono ?_; rintro e w10 ⟨rfl, hb10⟩; have d0 := (BR.out.keep hb10).cell 0; have d1 := (BR.out.keep hb10).cell 1; have f0 := (BR.out.keep hb10).frozen 0; have f1 := (BR.out.keep hb10).frozen 1))
  have B9 : Blk ((w10.setCell ⟨br, 0, none⟩ (.string (s ++ u3))).setCell ⟨br, 1, none⟩ (.int .i64 0)) br #[.string (s ++ u3), .int .i64 0] 23 := ((BR.out.keep hb10).set 0 _).set 1 _
  go_wp2
  exact post_cell_tmp (v := .int .i64 0) Try.underlying23 rfl size23 Try.results11 B9 rfl rfl rfl rfl ⟨rfl, bq_set (bq_set (bq_trans HB.out hb10) _ g2 _) _ g2 _⟩
end Go.Proofs.Ytfaipbdkkkhacaa
/- Layer 7: a change behind a writer. -/
namespace Go.Proofs.Ytfaipbdkkkhacaa
open Go.RowKit
set_option linter.unusedVariables false

theorem i64_8 {m0 m1 m2 m3 d0 d1 d2 d3 : Int} (h : cxOk [m0, m1, m2, m3] [d0, d1, d2, d3] = true) : ∀ v ∈ [m0, m1, m2, m3, d0, d1, d2, d3], -9223372036854775808 ≤ v ∧ v ≤ 9223372036854775807 := by
  unfold cxOk at h
  rw [Bool.and_eq_true] at h
  have h1 := i64_l h.1 (by omega)
  have h2 := i64_l h.2 (by omega)
  intro v hv
  rw [show [m0, m1, m2, m3, d0, d1, d2, d3] = [m0, m1, m2, m3] ++ [d0, d1, d2, d3] from rfl, List.mem_append] at hv
  exact hv.elim (h1 v) (h2 v)
theorem putcx_ok (s : ByteArray) (f m0 m1 m2 m3 d0 d1 d2 d3 : Int) (w : World) (hs : s.size ≤ 1000000) (h : cxOk [m0, m1, m2, m3] [d0, d1, d2, d3] = true) :
    Calls Try.prog 11 #[.agg #[.string s, .int .i64 f], .agg (iA [m0, m1, m2, m3, d0, d1, d2, d3])] w fun e w' => e = .returned (.tuple #[.agg #[.string (s ++ bs (F.bys (cxF [m0, m1, m2, m3] [d0, d1, d2, d3]))), .int .i64 0], .int .i64 0]) ∧ Below w.heap.size w w' := by
  have hb := i64_8 h
  have hw := tells_wd h
  have HR : Hid (∀ W, Calls Try.prog 19 #[.agg (iA [m0, m1, m2, m3, d0, d1, d2, d3])] W fun e w' => e = .returned (.bool true) ∧ Below W.heap.size W w') := Lib.hid fun W => by
    have := rightcx_any m0 m1 m2 m3 d0 d1 d2 d3 W (hb m0 (by simp)) (hb m1 (by simp)) (hb m2 (by simp)) (hb m3 (by simp)) (hb d0 (by simp)) (hb d1 (by simp)) (hb d2 (by simp)) (hb d3 (by simp))
    rw [h] at this
    exact this
  have H1 := Lib.hid (fun W => putbit_any [] (cxB [d0, d1, d2, d3]) W F.ok_nil (by simp [F.len]))
  have H2 := Lib.hid (fun W => putbit_any ([] ++ [(b01 (cxB [d0, d1, d2, d3]), 1)]) (cxM [m0, m1, m2, m3]) W (F.ok_one (b01_lt _)) (by show 1 ≤ 1000000; omega))
  have H3 : Hid (∀ W0 W sa sb sc N, (tells [m0, m1, m2, m3] [d0, d1, d2, d3]).length = N → Below W0.heap.size W0 W → Ints W (tells [m0, m1, m2, m3] [d0, d1, d2, d3]) sa sb 0 → Calls Try.prog 39 #[.agg (wrA (cF2 [m0, m1, m2, m3] [d0, d1, d2, d3])), .int .i64 4, .slice sa N sc] W fun e w' => e = .returned (.agg (wrA (cxF [m0, m1, m2, m3] [d0, d1, d2, d3]))) ∧ Below W0.heap.size W0 w') := Lib.hid fun W0 W sa sb sc N hN hW hI => by
    subst hN
    refine (putnumbers_any (cF2 [m0, m1, m2, m3] [d0, d1, d2, d3]) 4 (tells [m0, m1, m2, m3] [d0, d1, d2, d3]) sa sb 0 sc W (cF2_ok _ _) ?_ (by omega) (Nat.lt_of_le_of_lt hw.1 (by decide)) (by omega) (by have := tells_len [m0, m1, m2, m3] [d0, d1, d2, d3] rfl rfl; omega) (Lib.hid hI)).mono fun e w' ⟨h1, h2⟩ => ⟨h1, bq_trans hW h2⟩
    have := cxF_len_le h rfl rfl
    unfold cxF at this
    rw [F.len_app] at this
    omega
  have H4 : Hid (∀ W0 W, Below W0.heap.size W0 W → Calls Try.prog 38 #[.agg #[.string s, .int .i64 f], .agg #[.string (bs (F.bys (cxF [m0, m1, m2, m3] [d0, d1, d2, d3]))), .int .i64 (F.fr (cxF [m0, m1, m2, m3] [d0, d1, d2, d3]) : Int)]] W fun e w' => e = .returned (.agg #[.string (s ++ bs (F.bys (cxF [m0, m1, m2, m3] [d0, d1, d2, d3]))), .int .i64 0]) ∧ Below W0.heap.size W0 w') := Lib.hid fun W0 W hW =>
    (behind_any s (bs (F.bys (cxF [m0, m1, m2, m3] [d0, d1, d2, d3]))) f _ W (by omega) (by rw [bs_size, F.bys_len]; have := cxF_len_le h rfl rfl; omega)).mono fun e w'' ⟨h1, h2⟩ => ⟨h1, bq_trans hW h2⟩
  by_cases hM : [m0, m1, m2, m3] = [256, 256, 256, 256] <;> by_cases hD : [d0, d1, d2, d3] = [0, 0, 0, 0]
  · have eb : cxB [d0, d1, d2, d3] = false := by unfold cxB; rw [decide_eq_true hD]; rfl
    have em : cxM [m0, m1, m2, m3] = false := by unfold cxM; rw [decide_eq_true hM]; rfl
    have et : tells [m0, m1, m2, m3] [d0, d1, d2, d3] = ([] : List Int) := by unfold tells; rw [if_pos hM, if_pos hD]; try rfl
    have H1b : Hid (∀ W, Calls Try.prog 40 #[.agg #[.string ⟨#[]⟩, .int .i64 0], .bool false] W fun e w' => e = .returned (.agg (wrA ([] ++ [(b01 (cxB [d0, d1, d2, d3]), 1)]))) ∧ Below W.heap.size W w') := Lib.hid fun W => by
      have := H1.out W
      rw [eb] at this ⊢
      exact this
    have H2b : Hid (∀ W, Calls Try.prog 40 #[.agg (wrA ([] ++ [(b01 (cxB [d0, d1, d2, d3]), 1)])), .bool false] W fun e w' => e = .returned (.agg #[.string (bs (F.bys (cF2 [m0, m1, m2, m3] [d0, d1, d2, d3]))), .int .i64 (F.fr (cF2 [m0, m1, m2, m3] [d0, d1, d2, d3]) : Int)]) ∧ Below W.heap.size W w') := Lib.hid fun W => by
      have := H2.out W
      rw [em] at this
      unfold cF2
      rw [em]
      exact this
    have H3b := fun W0 W sa sb sc (h1 : Below W0.heap.size W0 W) (h2 : Ints W ([] : List Int) sa sb 0) => H3.out W0 W sa sb sc 0 (by rw [et]; rfl) h1 (by rw [et]; exact h2)
    exact putcx_00 s (bs (F.bys (cF2 [m0, m1, m2, m3] [d0, d1, d2, d3]))) (bs (F.bys (cxF [m0, m1, m2, m3] [d0, d1, d2, d3]))) f (F.fr (cF2 [m0, m1, m2, m3] [d0, d1, d2, d3]) : Int) (F.fr (cxF [m0, m1, m2, m3] [d0, d1, d2, d3]) : Int) m0 m1 m2 m3 d0 d1 d2 d3 ([] ++ [(b01 (cxB [d0, d1, d2, d3]), 1)]) w (decide_eq_true hM) (decide_eq_true hD) hb HR H1b H2b (Lib.hid H3b) H4
  · have eb : cxB [d0, d1, d2, d3] = true := by unfold cxB; rw [decide_eq_false hD]; rfl
    have em : cxM [m0, m1, m2, m3] = false := by unfold cxM; rw [decide_eq_true hM]; rfl
    have et : tells [m0, m1, m2, m3] [d0, d1, d2, d3] = ([] ++ [d0, d1, d2, d3]) := by unfold tells; rw [if_pos hM, if_neg hD]; try rfl
    have H1b : Hid (∀ W, Calls Try.prog 40 #[.agg #[.string ⟨#[]⟩, .int .i64 0], .bool true] W fun e w' => e = .returned (.agg (wrA ([] ++ [(b01 (cxB [d0, d1, d2, d3]), 1)]))) ∧ Below W.heap.size W w') := Lib.hid fun W => by
      have := H1.out W
      rw [eb] at this ⊢
      exact this
    have H2b : Hid (∀ W, Calls Try.prog 40 #[.agg (wrA ([] ++ [(b01 (cxB [d0, d1, d2, d3]), 1)])), .bool false] W fun e w' => e = .returned (.agg #[.string (bs (F.bys (cF2 [m0, m1, m2, m3] [d0, d1, d2, d3]))), .int .i64 (F.fr (cF2 [m0, m1, m2, m3] [d0, d1, d2, d3]) : Int)]) ∧ Below W.heap.size W w') := Lib.hid fun W => by
      have := H2.out W
      rw [em] at this
      unfold cF2
      rw [em]
      exact this
    have H3b := fun W0 W sa sb sc (h1 : Below W0.heap.size W0 W) (h2 : Ints W ([] ++ [d0, d1, d2, d3]) sa sb 0) => H3.out W0 W sa sb sc 4 (by rw [et]; rfl) h1 (by rw [et]; exact h2)
    exact putcx_01 s (bs (F.bys (cF2 [m0, m1, m2, m3] [d0, d1, d2, d3]))) (bs (F.bys (cxF [m0, m1, m2, m3] [d0, d1, d2, d3]))) f (F.fr (cF2 [m0, m1, m2, m3] [d0, d1, d2, d3]) : Int) (F.fr (cxF [m0, m1, m2, m3] [d0, d1, d2, d3]) : Int) m0 m1 m2 m3 d0 d1 d2 d3 ([] ++ [(b01 (cxB [d0, d1, d2, d3]), 1)]) w (decide_eq_true hM) (decide_eq_false hD) hb HR H1b H2b (Lib.hid H3b) H4
  · have eb : cxB [d0, d1, d2, d3] = false := by unfold cxB; rw [decide_eq_true hD]; rfl
    have em : cxM [m0, m1, m2, m3] = true := by unfold cxM; rw [decide_eq_false hM]; rfl
    have et : tells [m0, m1, m2, m3] [d0, d1, d2, d3] = ([] ++ [m0, m1, m2, m3]) := by unfold tells; rw [if_neg hM, if_pos hD]; try rfl
    have H1b : Hid (∀ W, Calls Try.prog 40 #[.agg #[.string ⟨#[]⟩, .int .i64 0], .bool false] W fun e w' => e = .returned (.agg (wrA ([] ++ [(b01 (cxB [d0, d1, d2, d3]), 1)]))) ∧ Below W.heap.size W w') := Lib.hid fun W => by
      have := H1.out W
      rw [eb] at this ⊢
      exact this
    have H2b : Hid (∀ W, Calls Try.prog 40 #[.agg (wrA ([] ++ [(b01 (cxB [d0, d1, d2, d3]), 1)])), .bool true] W fun e w' => e = .returned (.agg #[.string (bs (F.bys (cF2 [m0, m1, m2, m3] [d0, d1, d2, d3]))), .int .i64 (F.fr (cF2 [m0, m1, m2, m3] [d0, d1, d2, d3]) : Int)]) ∧ Below W.heap.size W w') := Lib.hid fun W => by
      have := H2.out W
      rw [em] at this
      unfold cF2
      rw [em]
      exact this
    have H3b := fun W0 W sa sb sc (h1 : Below W0.heap.size W0 W) (h2 : Ints W ([] ++ [m0, m1, m2, m3]) sa sb 0) => H3.out W0 W sa sb sc 4 (by rw [et]; rfl) h1 (by rw [et]; exact h2)
    exact putcx_10 s (bs (F.bys (cF2 [m0, m1, m2, m3] [d0, d1, d2, d3]))) (bs (F.bys (cxF [m0, m1, m2, m3] [d0, d1, d2, d3]))) f (F.fr (cF2 [m0, m1, m2, m3] [d0, d1, d2, d3]) : Int) (F.fr (cxF [m0, m1, m2, m3] [d0, d1, d2, d3]) : Int) m0 m1 m2 m3 d0 d1 d2 d3 ([] ++ [(b01 (cxB [d0, d1, d2, d3]), 1)]) w (decide_eq_false hM) (decide_eq_true hD) hb HR H1b H2b (Lib.hid H3b) H4
  · have eb : cxB [d0, d1, d2, d3] = true := by unfold cxB; rw [decide_eq_false hD]; rfl
    have em : cxM [m0, m1, m2, m3] = true := by unfold cxM; rw [decide_eq_false hM]; rfl
    have et : tells [m0, m1, m2, m3] [d0, d1, d2, d3] = ([] ++ [m0, m1, m2, m3] ++ [d0, d1, d2, d3]) := by unfold tells; rw [if_neg hM, if_neg hD]; try rfl
    have H1b : Hid (∀ W, Calls Try.prog 40 #[.agg #[.string ⟨#[]⟩, .int .i64 0], .bool true] W fun e w' => e = .returned (.agg (wrA ([] ++ [(b01 (cxB [d0, d1, d2, d3]), 1)]))) ∧ Below W.heap.size W w') := Lib.hid fun W => by
      have := H1.out W
      rw [eb] at this ⊢
      exact this
    have H2b : Hid (∀ W, Calls Try.prog 40 #[.agg (wrA ([] ++ [(b01 (cxB [d0, d1, d2, d3]), 1)])), .bool true] W fun e w' => e = .returned (.agg #[.string (bs (F.bys (cF2 [m0, m1, m2, m3] [d0, d1, d2, d3]))), .int .i64 (F.fr (cF2 [m0, m1, m2, m3] [d0, d1, d2, d3]) : Int)]) ∧ Below W.heap.size W w') := Lib.hid fun W => by
      have := H2.out W
      rw [em] at this
      unfold cF2
      rw [em]
      exact this
    have H3b := fun W0 W sa sb sc (h1 : Below W0.heap.size W0 W) (h2 : Ints W ([] ++ [m0, m1, m2, m3] ++ [d0, d1, d2, d3]) sa sb 0) => H3.out W0 W sa sb sc 8 (by rw [et]; rfl) h1 (by rw [et]; exact h2)
    exact putcx_11 s (bs (F.bys (cF2 [m0, m1, m2, m3] [d0, d1, d2, d3]))) (bs (F.bys (cxF [m0, m1, m2, m3] [d0, d1, d2, d3]))) f (F.fr (cF2 [m0, m1, m2, m3] [d0, d1, d2, d3]) : Int) (F.fr (cxF [m0, m1, m2, m3] [d0, d1, d2, d3]) : Int) m0 m1 m2 m3 d0 d1 d2 d3 ([] ++ [(b01 (cxB [d0, d1, d2, d3]), 1)]) w (decide_eq_false hM) (decide_eq_false hD) hb HR H1b H2b (Lib.hid H3b) H4
end Go.Proofs.Ytfaipbdkkkhacaa
