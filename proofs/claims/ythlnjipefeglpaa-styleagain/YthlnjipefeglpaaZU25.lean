import Derived.Test.YthlnjipefeglpaaZU24
namespace Go.Proofs.Ythlnjipefeglpaa
open Go.RowKit
set_option linter.unusedVariables false
set_option linter.unusedSimpArgs false
set_option maxRecDepth 100000
theorem within_any (v m : Int) (w : World) : Calls Try.prog 26 #[.int .i64 v, .int .i64 m] w fun e w' => e = .returned (.bool (decide (0 ≤ v) && decide (v ≤ m))) ∧ w = w' := by
  cases h0 : decide (0 ≤ v) <;> cases h1 : decide (v ≤ m) <;>
    (go_enter Try.func26, Try.ntmps26
     go_wp2
     go_ret
     exact ⟨rfl, rfl⟩)
theorem pstroke_any (x r g b a : Int) (w : World) (hr : I64 r) (hg : I64 g) (hb : I64 b) (ha : I64 a) :
    Calls Try.prog 11 #[.agg #[.int .i64 x, .int .i64 r, .int .i64 g, .int .i64 b, .int .i64 a]] w fun e w' => e = .returned (.bool (strokeOk x r g b a)) ∧ Below w.heap.size w w' := by
  have HR := Lib.hid (fun W => rightrgba_any r g b a W hr hg hb ha)
  have HI := Lib.hid (fun W => within_any x 65535 W)
  unfold strokeOk
  generalize rgbaOk r g b a = q at *
  have e1 : (decide (0 ≤ x) && decide (x < 65536)) = (decide (0 ≤ x) && decide (x ≤ 65535)) := by
    congr 1
    exact decide_eq_decide.2 (by omega)
  rw [e1]
  clear e1
  generalize (decide (0 ≤ x) && decide (x ≤ 65535)) = p at *
  cases p
  · go_enter Try.func11, Try.ntmps11
    go_wp2_with (first
      | (refine wl_box 30 _ _ rfl rfl (show _ = Value.agg #[.int .i64 x, .int .i64 r, .int .i64 g, .int .i64 b, .int .i64 a] from rfl) ?_; intro W1 bs Bs_1 l1 k1; have gs : w.heap.size ≤ bs := l1; have Hw1 := k1; clear l1 k1; have cs_0_1 : W1.cell? ⟨bs, 0, none⟩ = some (.int .i64 x) := Bs_1.cell 0; have cs_1_1 : W1.cell? ⟨bs, 1, none⟩ = some (.int .i64 r) := Bs_1.cell 1; have cs_2_1 : W1.cell? ⟨bs, 2, none⟩ = some (.int .i64 g) := Bs_1.cell 2; have cs_3_1 : W1.cell? ⟨bs, 3, none⟩ = some (.int .i64 b) := Bs_1.cell 3; have cs_4_1 : W1.cell? ⟨bs, 4, none⟩ = some (.int .i64 a) := Bs_1.cell 4)
      | (go_at_call 26; (with_reducible refine (HI.out _).mono ?_); rintro e w0 ⟨rfl, rfl⟩))
    go_ret
    exact ⟨rfl, Hw1⟩
  · go_enter Try.func11, Try.ntmps11
    go_wp2_with (first
      | (refine wl_box 30 _ _ rfl rfl (show _ = Value.agg #[.int .i64 x, .int .i64 r, .int .i64 g, .int .i64 b, .int .i64 a] from rfl) ?_; intro W1 bs Bs_1 l1 k1; have gs : w.heap.size ≤ bs := l1; have Hw1 := k1; clear l1 k1; have cs_0_1 : W1.cell? ⟨bs, 0, none⟩ = some (.int .i64 x) := Bs_1.cell 0; have cs_1_1 : W1.cell? ⟨bs, 1, none⟩ = some (.int .i64 r) := Bs_1.cell 1; have cs_2_1 : W1.cell? ⟨bs, 2, none⟩ = some (.int .i64 g) := Bs_1.cell 2; have cs_3_1 : W1.cell? ⟨bs, 3, none⟩ = some (.int .i64 b) := Bs_1.cell 3; have cs_4_1 : W1.cell? ⟨bs, 4, none⟩ = some (.int .i64 a) := Bs_1.cell 4)
      | (go_at_call 26; (with_reducible refine (HI.out _).mono ?_); rintro e w0 ⟨rfl, rfl⟩)
      | (go_at_call 24; (with_reducible refine (HR.out _).mono ?_); rintro e W2 ⟨rfl, k2⟩; have Bs_2 := Bs_1.keep k2; have Hw2 := bq_trans Hw1 k2; clear k2 Bs_1 cs_0_1 cs_1_1 cs_2_1 cs_3_1 cs_4_1 Hw1))
    go_ret
    exact ⟨rfl, Hw2⟩
theorem pstroke_l (x : List Int) (w : World) (h : x.length = 5) (hb : ∀ v ∈ x, I64 v) : Calls Try.prog 11 #[.agg (iL x).toArray] w fun e w' => e = .returned (.bool (strokeL x)) ∧ Below w.heap.size w w' := by
  obtain ⟨a, b, c, d, e, rfl⟩ := list5 x h
  exact pstroke_any a b c d e w (hb b (by simp)) (hb c (by simp)) (hb d (by simp)) (hb e (by simp))
def SeRel (w : World) (xs ys : List (List Int)) (i : Value) (wr : World) : Prop := ∃ k : Nat, k ≤ xs.length ∧ i = .int .i64 k ∧ xs.take k = ys.take k ∧ Below w.heap.size w wr
set_option maxHeartbeats 4000000 in
theorem seq_any (xs ys : List (List Int)) (sv tv : Value) (w : World) (hs : Stops w sv xs) (ht : Stops w tv ys) :
    Calls Try.prog 29 #[sv, tv] w fun e w' => e = .returned (.bool (decide (xs = ys))) ∧ Below w.heap.size w w' := by
  obtain ⟨pa, pc, pb, po, rfl, la, pget⟩ := hs.get
  obtain ⟨qa, qc, qb, qo, rfl, lb, qget⟩ := ht.get
  have PG := Lib.hid pget
  have QG := Lib.hid qget
  clear hs ht pget qget
  by_cases n1 : xs.length = ys.length
  rotate_left
  · have e : decide (xs = ys) = false := decide_eq_false fun h => n1 (by rw [h])
    have q1 : ((xs.length : Int) != (ys.length : Int)) = true := by rw [bne_iff_ne]; omega
    rw [e]
    clear e
    go_enter Try.func29, Try.ntmps29
    go_wp2_with fail
    go_ret
    exact ⟨rfl, bq_refl w⟩
  have q1 : ((xs.length : Int) != (ys.length : Int)) = false := by rw [n1]; simp
  have N1 := Lib.hid n1
  clear n1
  go_enter Try.func29, Try.ntmps29
  go_wp2_with fail
  clear q1
  go_loopw [5, 13] (fun _ i wr => SeRel w xs ys i wr) (fun _ i _ => xs.length - (intOf i).toNat)
  case atStart => exact ⟨0, by omega, rfl, rfl, bq_refl w⟩
  case round =>
    obtain ⟨k, hk, rfl, hst, hbel⟩ := hrel
    have HS := Lib.hid hst
    have HB := Lib.hid hbel
    clear hst hbel
    by_cases hlt : k < xs.length
    · have hlt2 : k < ys.length := by rw [← N1.out]; exact hlt
      obtain ⟨rfl, _, cs, _, ⟨h5, rfl, _⟩, hrg⟩ := PG.out k hlt
      obtain ⟨rfl, _, cs2, _, ⟨h52, rfl, _⟩, hrg2⟩ := QG.out k hlt2
      have rg := rangeAt_keep hrg HB.out
      have rg2 := rangeAt_keep hrg2 HB.out
      have HT := Lib.hid (takeB xs ys k hlt hlt2 HS.out)
      have HNe := Lib.hid (neB xs ys k hlt hlt2)
      obtain ⟨x0, x1, x2, x3, x4, hx⟩ := list5 _ h5
      obtain ⟨y0, y1, y2, y3, y4, hy⟩ := list5 _ h52
      rw [hx] at rg HT HNe
      rw [hy] at rg2 HT HNe
      have r0 : wr.cell? ⟨pb, po + k * 5, none⟩ = some (.int .i64 x0) := rg 0 _ rfl
      have t0 : wr.cell? ⟨qb, qo + k * 5, none⟩ = some (.int .i64 y0) := rg2 0 _ rfl
      have r1 : wr.cell? ⟨pb, po + k * 5 + 1, none⟩ = some (.int .i64 x1) := rg 1 _ rfl
      have t1 : wr.cell? ⟨qb, qo + k * 5 + 1, none⟩ = some (.int .i64 y1) := rg2 1 _ rfl
      have r2 : wr.cell? ⟨pb, po + k * 5 + 2, none⟩ = some (.int .i64 x2) := rg 2 _ rfl
      have t2 : wr.cell? ⟨qb, qo + k * 5 + 2, none⟩ = some (.int .i64 y2) := rg2 2 _ rfl
      have r3 : wr.cell? ⟨pb, po + k * 5 + 3, none⟩ = some (.int .i64 x3) := rg 3 _ rfl
      have t3 : wr.cell? ⟨qb, qo + k * 5 + 3, none⟩ = some (.int .i64 y3) := rg2 3 _ rfl
      have r4 : wr.cell? ⟨pb, po + k * 5 + 4, none⟩ = some (.int .i64 x4) := rg 4 _ rfl
      have t4 : wr.cell? ⟨qb, qo + k * 5 + 4, none⟩ = some (.int .i64 y4) := rg2 4 _ rfl
      have q0 := fun W => qSP x0 x1 x2 x3 x4 y0 y1 y2 y3 y4 W
      have i1 : (0 : Int) ≤ (k : Int) := by omega
      have i2 : (k : Int) < (xs.length : Int) := by omega
      have i3 : (k : Int) < (ys.length : Int) := by omega
      clear hrg hrg2 hx hy rg rg2 h5 h52 HS
      cases qq : decide ([x0, x1, x2, x3, x4] = [y0, y1, y2, y3, y4])
      · rw [qq] at q0
        have HL : Hid (decide (xs = ys) = false) := Lib.hid (decide_eq_false (HNe.out (of_decide_eq_false qq)))
        clear HT HNe qq
        go_wp2_with fail
        go_quiet (fail)
        have hb9 : Below wr.heap.size wr (wr.drewN nq) := bq_drewN (bq_refl wr) nq
        go_wp2_with fail
        go_ret
        exact ⟨ret_bool HL.out.symm, bq_trans HB.out hb9⟩
      · rw [qq] at q0
        have HL := Lib.hid (HT.out (of_decide_eq_true qq))
        clear HT HNe qq
        go_wp2_with fail
        go_quiet (fail)
        have hb9 : Below wr.heap.size wr (wr.drewN nq) := bq_drewN (bq_refl wr) nq
        go_wp2_with fail
        go_roundw
        case rel => exact ⟨k + 1, by omega, by go_num, HL.out, bq_trans HB.out hb9⟩
        case measure => simp [intOf]; omega
    · have hk2 : k = xs.length := by omega
      have e : decide (xs = ys) = true := by
        have h := HS.out
        rw [List.take_of_length_le (by omega), List.take_of_length_le (by rw [← N1.out]; omega)] at h
        exact decide_eq_true h
      have HL := Lib.hid e
      clear e HS
      go_wp2_with fail
      go_ret
      exact ⟨ret_bool HL.out.symm, HB.out⟩
set_option maxHeartbeats 2000000 in
theorem psame_0 (ak ar ag ab aa am0 am1 am2 am3 am4 am5 asp aid bk br bg bb ba bm0 bm1 bm2 bm3 bm4 bm5 bsp bid : Int) (ast bst : List (List Int)) (asa bsa : Option Addr) (asc bsc : Nat) (w : World) (p0 : (ak == bk) = false) : Calls Try.prog 13 #[.agg #[.int .i64 ak, .int .i64 ar, .int .i64 ag, .int .i64 ab, .int .i64 aa, .int .i64 am0, .int .i64 am1, .int .i64 am2, .int .i64 am3, .int .i64 am4, .int .i64 am5, .int .i64 asp, .slice asa ast.length asc, .int .i64 aid], .agg #[.int .i64 bk, .int .i64 br, .int .i64 bg, .int .i64 bb, .int .i64 ba, .int .i64 bm0, .int .i64 bm1, .int .i64 bm2, .int .i64 bm3, .int .i64 bm4, .int .i64 bm5, .int .i64 bsp, .slice bsa bst.length bsc, .int .i64 bid]] w fun e w' => e = .returned (.bool false) ∧ Below w.heap.size w w' := by
  go_enter Try.func13, Try.ntmps13
  go_upto_region 1 with (go_big_may; first
    | (refine wl_box 28 _ _ rfl rfl (show _ = Value.agg #[.int .i64 ak, .int .i64 ar, .int .i64 ag, .int .i64 ab, .int .i64 aa, .int .i64 am0, .int .i64 am1, .int .i64 am2, .int .i64 am3, .int .i64 am4, .int .i64 am5, .int .i64 asp, .slice asa ast.length asc, .int .i64 aid] from rfl) ?_; intro W1 bp Bp_1 l1 k1; have gp : w.heap.size ≤ bp := l1; have Hw1 := k1; clear l1 k1)
    | (refine wl_box 28 _ _ rfl rfl (show _ = Value.agg #[.int .i64 bk, .int .i64 br, .int .i64 bg, .int .i64 bb, .int .i64 ba, .int .i64 bm0, .int .i64 bm1, .int .i64 bm2, .int .i64 bm3, .int .i64 bm4, .int .i64 bm5, .int .i64 bsp, .slice bsa bst.length bsc, .int .i64 bid] from rfl) ?_; intro W2 bq Bq_2 l2 k2; have gq : w.heap.size ≤ bq := Nat.le_trans Hw1.size l2; have npq : bp ≠ bq := Nat.ne_of_lt (Nat.lt_of_lt_of_le Bp_1.lt l2); have Bp_2 := Bp_1.keep k2; have Hw2 := bq_trans Hw1 k2; clear l2 k2 Bp_1 Hw1; have cp_0_2 : W2.cell? ⟨bp, 0, none⟩ = some (.int .i64 ak) := Bp_2.cell 0; have cp_1_2 : W2.cell? ⟨bp, 1, none⟩ = some (.int .i64 ar) := Bp_2.cell 1; have cp_2_2 : W2.cell? ⟨bp, 2, none⟩ = some (.int .i64 ag) := Bp_2.cell 2; have cp_3_2 : W2.cell? ⟨bp, 3, none⟩ = some (.int .i64 ab) := Bp_2.cell 3; have cp_4_2 : W2.cell? ⟨bp, 4, none⟩ = some (.int .i64 aa) := Bp_2.cell 4; have cp_5_2 : W2.cell? ⟨bp, 5, none⟩ = some (.int .i64 am0) := Bp_2.cell 5; have cp_6_2 : W2.cell? ⟨bp, 6, none⟩ = some (.int .i64 am1) := Bp_2.cell 6; have cp_7_2 : W2.cell? ⟨bp, 7, none⟩ = some (.int .i64 am2) := Bp_2.cell 7; have cp_8_2 : W2.cell? ⟨bp, 8, none⟩ = some (.int .i64 am3) := Bp_2.cell 8; have cp_9_2 : W2.cell? ⟨bp, 9, none⟩ = some (.int .i64 am4) := Bp_2.cell 9; have cp_10_2 : W2.cell? ⟨bp, 10, none⟩ = some (.int .i64 am5) := Bp_2.cell 10; have cp_11_2 : W2.cell? ⟨bp, 11, none⟩ = some (.int .i64 asp) := Bp_2.cell 11; have cp_12_2 : W2.cell? ⟨bp, 12, none⟩ = some (.slice asa ast.length asc) := Bp_2.cell 12; have cp_13_2 : W2.cell? ⟨bp, 13, none⟩ = some (.int .i64 aid) := Bp_2.cell 13; have cq_0_2 : W2.cell? ⟨bq, 0, none⟩ = some (.int .i64 bk) := Bq_2.cell 0; have cq_1_2 : W2.cell? ⟨bq, 1, none⟩ = some (.int .i64 br) := Bq_2.cell 1; have cq_2_2 : W2.cell? ⟨bq, 2, none⟩ = some (.int .i64 bg) := Bq_2.cell 2; have cq_3_2 : W2.cell? ⟨bq, 3, none⟩ = some (.int .i64 bb) := Bq_2.cell 3; have cq_4_2 : W2.cell? ⟨bq, 4, none⟩ = some (.int .i64 ba) := Bq_2.cell 4; have cq_5_2 : W2.cell? ⟨bq, 5, none⟩ = some (.int .i64 bm0) := Bq_2.cell 5; have cq_6_2 : W2.cell? ⟨bq, 6, none⟩ = some (.int .i64 bm1) := Bq_2.cell 6; have cq_7_2 : W2.cell? ⟨bq, 7, none⟩ = some (.int .i64 bm2) := Bq_2.cell 7; have cq_8_2 : W2.cell? ⟨bq, 8, none⟩ = some (.int .i64 bm3) := Bq_2.cell 8; have cq_9_2 : W2.cell? ⟨bq, 9, none⟩ = some (.int .i64 bm4) := Bq_2.cell 9; have cq_10_2 : W2.cell? ⟨bq, 10, none⟩ = some (.int .i64 bm5) := Bq_2.cell 10; have cq_11_2 : W2.cell? ⟨bq, 11, none⟩ = some (.int .i64 bsp) := Bq_2.cell 11; have cq_12_2 : W2.cell? ⟨bq, 12, none⟩ = some (.slice bsa bst.length bsc) := Bq_2.cell 12; have cq_13_2 : W2.cell? ⟨bq, 13, none⟩ = some (.int .i64 bid) := Bq_2.cell 13))
  go_wp2_with fail
  go_ret
  exact ⟨rfl, Hw2⟩
set_option maxHeartbeats 2000000 in
theorem psame_1 (ak ar ag ab aa am0 am1 am2 am3 am4 am5 asp aid bk br bg bb ba bm0 bm1 bm2 bm3 bm4 bm5 bsp bid : Int) (ast bst : List (List Int)) (asa bsa : Option Addr) (asc bsc : Nat) (w : World) (p0 : (ak == bk) = true) (p1 : ∀ W, (Op.equalIn 10000 23 (.agg #[.int .i64 ar, .int .i64 ag, .int .i64 ab, .int .i64 aa]) (.agg #[.int .i64 br, .int .i64 bg, .int .i64 bb, .int .i64 ba])).run Try.prog W = .ok false W) : Calls Try.prog 13 #[.agg #[.int .i64 ak, .int .i64 ar, .int .i64 ag, .int .i64 ab, .int .i64 aa, .int .i64 am0, .int .i64 am1, .int .i64 am2, .int .i64 am3, .int .i64 am4, .int .i64 am5, .int .i64 asp, .slice asa ast.length asc, .int .i64 aid], .agg #[.int .i64 bk, .int .i64 br, .int .i64 bg, .int .i64 bb, .int .i64 ba, .int .i64 bm0, .int .i64 bm1, .int .i64 bm2, .int .i64 bm3, .int .i64 bm4, .int .i64 bm5, .int .i64 bsp, .slice bsa bst.length bsc, .int .i64 bid]] w fun e w' => e = .returned (.bool false) ∧ Below w.heap.size w w' := by
  go_enter Try.func13, Try.ntmps13
  go_upto_region 1 with (go_big_may; first
    | (refine wl_box 28 _ _ rfl rfl (show _ = Value.agg #[.int .i64 ak, .int .i64 ar, .int .i64 ag, .int .i64 ab, .int .i64 aa, .int .i64 am0, .int .i64 am1, .int .i64 am2, .int .i64 am3, .int .i64 am4, .int .i64 am5, .int .i64 asp, .slice asa ast.length asc, .int .i64 aid] from rfl) ?_; intro W1 bp Bp_1 l1 k1; have gp : w.heap.size ≤ bp := l1; have Hw1 := k1; clear l1 k1)
    | (refine wl_box 28 _ _ rfl rfl (show _ = Value.agg #[.int .i64 bk, .int .i64 br, .int .i64 bg, .int .i64 bb, .int .i64 ba, .int .i64 bm0, .int .i64 bm1, .int .i64 bm2, .int .i64 bm3, .int .i64 bm4, .int .i64 bm5, .int .i64 bsp, .slice bsa bst.length bsc, .int .i64 bid] from rfl) ?_; intro W2 bq Bq_2 l2 k2; have gq : w.heap.size ≤ bq := Nat.le_trans Hw1.size l2; have npq : bp ≠ bq := Nat.ne_of_lt (Nat.lt_of_lt_of_le Bp_1.lt l2); have Bp_2 := Bp_1.keep k2; have Hw2 := bq_trans Hw1 k2; clear l2 k2 Bp_1 Hw1; have cp_0_2 : W2.cell? ⟨bp, 0, none⟩ = some (.int .i64 ak) := Bp_2.cell 0; have cp_1_2 : W2.cell? ⟨bp, 1, none⟩ = some (.int .i64 ar) := Bp_2.cell 1; have cp_2_2 : W2.cell? ⟨bp, 2, none⟩ = some (.int .i64 ag) := Bp_2.cell 2; have cp_3_2 : W2.cell? ⟨bp, 3, none⟩ = some (.int .i64 ab) := Bp_2.cell 3; have cp_4_2 : W2.cell? ⟨bp, 4, none⟩ = some (.int .i64 aa) := Bp_2.cell 4; have cp_5_2 : W2.cell? ⟨bp, 5, none⟩ = some (.int .i64 am0) := Bp_2.cell 5; have cp_6_2 : W2.cell? ⟨bp, 6, none⟩ = some (.int .i64 am1) := Bp_2.cell 6; have cp_7_2 : W2.cell? ⟨bp, 7, none⟩ = some (.int .i64 am2) := Bp_2.cell 7; have cp_8_2 : W2.cell? ⟨bp, 8, none⟩ = some (.int .i64 am3) := Bp_2.cell 8; have cp_9_2 : W2.cell? ⟨bp, 9, none⟩ = some (.int .i64 am4) := Bp_2.cell 9; have cp_10_2 : W2.cell? ⟨bp, 10, none⟩ = some (.int .i64 am5) := Bp_2.cell 10; have cp_11_2 : W2.cell? ⟨bp, 11, none⟩ = some (.int .i64 asp) := Bp_2.cell 11; have cp_12_2 : W2.cell? ⟨bp, 12, none⟩ = some (.slice asa ast.length asc) := Bp_2.cell 12; have cp_13_2 : W2.cell? ⟨bp, 13, none⟩ = some (.int .i64 aid) := Bp_2.cell 13; have cq_0_2 : W2.cell? ⟨bq, 0, none⟩ = some (.int .i64 bk) := Bq_2.cell 0; have cq_1_2 : W2.cell? ⟨bq, 1, none⟩ = some (.int .i64 br) := Bq_2.cell 1; have cq_2_2 : W2.cell? ⟨bq, 2, none⟩ = some (.int .i64 bg) := Bq_2.cell 2; have cq_3_2 : W2.cell? ⟨bq, 3, none⟩ = some (.int .i64 bb) := Bq_2.cell 3; have cq_4_2 : W2.cell? ⟨bq, 4, none⟩ = some (.int .i64 ba) := Bq_2.cell 4; have cq_5_2 : W2.cell? ⟨bq, 5, none⟩ = some (.int .i64 bm0) := Bq_2.cell 5; have cq_6_2 : W2.cell? ⟨bq, 6, none⟩ = some (.int .i64 bm1) := Bq_2.cell 6; have cq_7_2 : W2.cell? ⟨bq, 7, none⟩ = some (.int .i64 bm2) := Bq_2.cell 7; have cq_8_2 : W2.cell? ⟨bq, 8, none⟩ = some (.int .i64 bm3) := Bq_2.cell 8; have cq_9_2 : W2.cell? ⟨bq, 9, none⟩ = some (.int .i64 bm4) := Bq_2.cell 9; have cq_10_2 : W2.cell? ⟨bq, 10, none⟩ = some (.int .i64 bm5) := Bq_2.cell 10; have cq_11_2 : W2.cell? ⟨bq, 11, none⟩ = some (.int .i64 bsp) := Bq_2.cell 11; have cq_12_2 : W2.cell? ⟨bq, 12, none⟩ = some (.slice bsa bst.length bsc) := Bq_2.cell 12; have cq_13_2 : W2.cell? ⟨bq, 13, none⟩ = some (.int .i64 bid) := Bq_2.cell 13))
  go_wp2_with fail
  go_ret
  exact ⟨rfl, Hw2⟩
set_option maxHeartbeats 2000000 in
theorem psame_2 (ak ar ag ab aa am0 am1 am2 am3 am4 am5 asp aid bk br bg bb ba bm0 bm1 bm2 bm3 bm4 bm5 bsp bid : Int) (ast bst : List (List Int)) (asa bsa : Option Addr) (asc bsc : Nat) (w : World) (p0 : (ak == bk) = true) (p1 : ∀ W, (Op.equalIn 10000 23 (.agg #[.int .i64 ar, .int .i64 ag, .int .i64 ab, .int .i64 aa]) (.agg #[.int .i64 br, .int .i64 bg, .int .i64 bb, .int .i64 ba])).run Try.prog W = .ok true W) (p2 : ∀ W, (Op.equalIn 10000 25 (.agg #[.int .i64 am0, .int .i64 am1, .int .i64 am2, .int .i64 am3, .int .i64 am4, .int .i64 am5]) (.agg #[.int .i64 bm0, .int .i64 bm1, .int .i64 bm2, .int .i64 bm3, .int .i64 bm4, .int .i64 bm5])).run Try.prog W = .ok false W) : Calls Try.prog 13 #[.agg #[.int .i64 ak, .int .i64 ar, .int .i64 ag, .int .i64 ab, .int .i64 aa, .int .i64 am0, .int .i64 am1, .int .i64 am2, .int .i64 am3, .int .i64 am4, .int .i64 am5, .int .i64 asp, .slice asa ast.length asc, .int .i64 aid], .agg #[.int .i64 bk, .int .i64 br, .int .i64 bg, .int .i64 bb, .int .i64 ba, .int .i64 bm0, .int .i64 bm1, .int .i64 bm2, .int .i64 bm3, .int .i64 bm4, .int .i64 bm5, .int .i64 bsp, .slice bsa bst.length bsc, .int .i64 bid]] w fun e w' => e = .returned (.bool false) ∧ Below w.heap.size w w' := by
  go_enter Try.func13, Try.ntmps13
  go_upto_region 1 with (go_big_may; first
    | (refine wl_box 28 _ _ rfl rfl (show _ = Value.agg #[.int .i64 ak, .int .i64 ar, .int .i64 ag, .int .i64 ab, .int .i64 aa, .int .i64 am0, .int .i64 am1, .int .i64 am2, .int .i64 am3, .int .i64 am4, .int .i64 am5, .int .i64 asp, .slice asa ast.length asc, .int .i64 aid] from rfl) ?_; intro W1 bp Bp_1 l1 k1; have gp : w.heap.size ≤ bp := l1; have Hw1 := k1; clear l1 k1)
    | (refine wl_box 28 _ _ rfl rfl (show _ = Value.agg #[.int .i64 bk, .int .i64 br, .int .i64 bg, .int .i64 bb, .int .i64 ba, .int .i64 bm0, .int .i64 bm1, .int .i64 bm2, .int .i64 bm3, .int .i64 bm4, .int .i64 bm5, .int .i64 bsp, .slice bsa bst.length bsc, .int .i64 bid] from rfl) ?_; intro W2 bq Bq_2 l2 k2; have gq : w.heap.size ≤ bq := Nat.le_trans Hw1.size l2; have npq : bp ≠ bq := Nat.ne_of_lt (Nat.lt_of_lt_of_le Bp_1.lt l2); have Bp_2 := Bp_1.keep k2; have Hw2 := bq_trans Hw1 k2; clear l2 k2 Bp_1 Hw1; have cp_0_2 : W2.cell? ⟨bp, 0, none⟩ = some (.int .i64 ak) := Bp_2.cell 0; have cp_1_2 : W2.cell? ⟨bp, 1, none⟩ = some (.int .i64 ar) := Bp_2.cell 1; have cp_2_2 : W2.cell? ⟨bp, 2, none⟩ = some (.int .i64 ag) := Bp_2.cell 2; have cp_3_2 : W2.cell? ⟨bp, 3, none⟩ = some (.int .i64 ab) := Bp_2.cell 3; have cp_4_2 : W2.cell? ⟨bp, 4, none⟩ = some (.int .i64 aa) := Bp_2.cell 4; have cp_5_2 : W2.cell? ⟨bp, 5, none⟩ = some (.int .i64 am0) := Bp_2.cell 5; have cp_6_2 : W2.cell? ⟨bp, 6, none⟩ = some (.int .i64 am1) := Bp_2.cell 6; have cp_7_2 : W2.cell? ⟨bp, 7, none⟩ = some (.int .i64 am2) := Bp_2.cell 7; have cp_8_2 : W2.cell? ⟨bp, 8, none⟩ = some (.int .i64 am3) := Bp_2.cell 8; have cp_9_2 : W2.cell? ⟨bp, 9, none⟩ = some (.int .i64 am4) := Bp_2.cell 9; have cp_10_2 : W2.cell? ⟨bp, 10, none⟩ = some (.int .i64 am5) := Bp_2.cell 10; have cp_11_2 : W2.cell? ⟨bp, 11, none⟩ = some (.int .i64 asp) := Bp_2.cell 11; have cp_12_2 : W2.cell? ⟨bp, 12, none⟩ = some (.slice asa ast.length asc) := Bp_2.cell 12; have cp_13_2 : W2.cell? ⟨bp, 13, none⟩ = some (.int .i64 aid) := Bp_2.cell 13; have cq_0_2 : W2.cell? ⟨bq, 0, none⟩ = some (.int .i64 bk) := Bq_2.cell 0; have cq_1_2 : W2.cell? ⟨bq, 1, none⟩ = some (.int .i64 br) := Bq_2.cell 1; have cq_2_2 : W2.cell? ⟨bq, 2, none⟩ = some (.int .i64 bg) := Bq_2.cell 2; have cq_3_2 : W2.cell? ⟨bq, 3, none⟩ = some (.int .i64 bb) := Bq_2.cell 3; have cq_4_2 : W2.cell? ⟨bq, 4, none⟩ = some (.int .i64 ba) := Bq_2.cell 4; have cq_5_2 : W2.cell? ⟨bq, 5, none⟩ = some (.int .i64 bm0) := Bq_2.cell 5; have cq_6_2 : W2.cell? ⟨bq, 6, none⟩ = some (.int .i64 bm1) := Bq_2.cell 6; have cq_7_2 : W2.cell? ⟨bq, 7, none⟩ = some (.int .i64 bm2) := Bq_2.cell 7; have cq_8_2 : W2.cell? ⟨bq, 8, none⟩ = some (.int .i64 bm3) := Bq_2.cell 8; have cq_9_2 : W2.cell? ⟨bq, 9, none⟩ = some (.int .i64 bm4) := Bq_2.cell 9; have cq_10_2 : W2.cell? ⟨bq, 10, none⟩ = some (.int .i64 bm5) := Bq_2.cell 10; have cq_11_2 : W2.cell? ⟨bq, 11, none⟩ = some (.int .i64 bsp) := Bq_2.cell 11; have cq_12_2 : W2.cell? ⟨bq, 12, none⟩ = some (.slice bsa bst.length bsc) := Bq_2.cell 12; have cq_13_2 : W2.cell? ⟨bq, 13, none⟩ = some (.int .i64 bid) := Bq_2.cell 13))
  go_wp2_with fail
  go_ret
  exact ⟨rfl, Hw2⟩
set_option maxHeartbeats 2000000 in
theorem psame_3 (ak ar ag ab aa am0 am1 am2 am3 am4 am5 asp aid bk br bg bb ba bm0 bm1 bm2 bm3 bm4 bm5 bsp bid : Int) (ast bst : List (List Int)) (asa bsa : Option Addr) (asc bsc : Nat) (w : World) (p0 : (ak == bk) = true) (p1 : ∀ W, (Op.equalIn 10000 23 (.agg #[.int .i64 ar, .int .i64 ag, .int .i64 ab, .int .i64 aa]) (.agg #[.int .i64 br, .int .i64 bg, .int .i64 bb, .int .i64 ba])).run Try.prog W = .ok true W) (p2 : ∀ W, (Op.equalIn 10000 25 (.agg #[.int .i64 am0, .int .i64 am1, .int .i64 am2, .int .i64 am3, .int .i64 am4, .int .i64 am5]) (.agg #[.int .i64 bm0, .int .i64 bm1, .int .i64 bm2, .int .i64 bm3, .int .i64 bm4, .int .i64 bm5])).run Try.prog W = .ok true W) (p3 : (asp == bsp) = false) : Calls Try.prog 13 #[.agg #[.int .i64 ak, .int .i64 ar, .int .i64 ag, .int .i64 ab, .int .i64 aa, .int .i64 am0, .int .i64 am1, .int .i64 am2, .int .i64 am3, .int .i64 am4, .int .i64 am5, .int .i64 asp, .slice asa ast.length asc, .int .i64 aid], .agg #[.int .i64 bk, .int .i64 br, .int .i64 bg, .int .i64 bb, .int .i64 ba, .int .i64 bm0, .int .i64 bm1, .int .i64 bm2, .int .i64 bm3, .int .i64 bm4, .int .i64 bm5, .int .i64 bsp, .slice bsa bst.length bsc, .int .i64 bid]] w fun e w' => e = .returned (.bool false) ∧ Below w.heap.size w w' := by
  go_enter Try.func13, Try.ntmps13
  go_upto_region 1 with (go_big_may; first
    | (refine wl_box 28 _ _ rfl rfl (show _ = Value.agg #[.int .i64 ak, .int .i64 ar, .int .i64 ag, .int .i64 ab, .int .i64 aa, .int .i64 am0, .int .i64 am1, .int .i64 am2, .int .i64 am3, .int .i64 am4, .int .i64 am5, .int .i64 asp, .slice asa ast.length asc, .int .i64 aid] from rfl) ?_; intro W1 bp Bp_1 l1 k1; have gp : w.heap.size ≤ bp := l1; have Hw1 := k1; clear l1 k1)
    | (refine wl_box 28 _ _ rfl rfl (show _ = Value.agg #[.int .i64 bk, .int .i64 br, .int .i64 bg, .int .i64 bb, .int .i64 ba, .int .i64 bm0, .int .i64 bm1, .int .i64 bm2, .int .i64 bm3, .int .i64 bm4, .int .i64 bm5, .int .i64 bsp, .slice bsa bst.length bsc, .int .i64 bid] from rfl) ?_; intro W2 bq Bq_2 l2 k2; have gq : w.heap.size ≤ bq := Nat.le_trans Hw1.size l2; have npq : bp ≠ bq := Nat.ne_of_lt (Nat.lt_of_lt_of_le Bp_1.lt l2); have Bp_2 := Bp_1.keep k2; have Hw2 := bq_trans Hw1 k2; clear l2 k2 Bp_1 Hw1; have cp_0_2 : W2.cell? ⟨bp, 0, none⟩ = some (.int .i64 ak) := Bp_2.cell 0; have cp_1_2 : W2.cell? ⟨bp, 1, none⟩ = some (.int .i64 ar) := Bp_2.cell 1; have cp_2_2 : W2.cell? ⟨bp, 2, none⟩ = some (.int .i64 ag) := Bp_2.cell 2; have cp_3_2 : W2.cell? ⟨bp, 3, none⟩ = some (.int .i64 ab) := Bp_2.cell 3; have cp_4_2 : W2.cell? ⟨bp, 4, none⟩ = some (.int .i64 aa) := Bp_2.cell 4; have cp_5_2 : W2.cell? ⟨bp, 5, none⟩ = some (.int .i64 am0) := Bp_2.cell 5; have cp_6_2 : W2.cell? ⟨bp, 6, none⟩ = some (.int .i64 am1) := Bp_2.cell 6; have cp_7_2 : W2.cell? ⟨bp, 7, none⟩ = some (.int .i64 am2) := Bp_2.cell 7; have cp_8_2 : W2.cell? ⟨bp, 8, none⟩ = some (.int .i64 am3) := Bp_2.cell 8; have cp_9_2 : W2.cell? ⟨bp, 9, none⟩ = some (.int .i64 am4) := Bp_2.cell 9; have cp_10_2 : W2.cell? ⟨bp, 10, none⟩ = some (.int .i64 am5) := Bp_2.cell 10; have cp_11_2 : W2.cell? ⟨bp, 11, none⟩ = some (.int .i64 asp) := Bp_2.cell 11; have cp_12_2 : W2.cell? ⟨bp, 12, none⟩ = some (.slice asa ast.length asc) := Bp_2.cell 12; have cp_13_2 : W2.cell? ⟨bp, 13, none⟩ = some (.int .i64 aid) := Bp_2.cell 13; have cq_0_2 : W2.cell? ⟨bq, 0, none⟩ = some (.int .i64 bk) := Bq_2.cell 0; have cq_1_2 : W2.cell? ⟨bq, 1, none⟩ = some (.int .i64 br) := Bq_2.cell 1; have cq_2_2 : W2.cell? ⟨bq, 2, none⟩ = some (.int .i64 bg) := Bq_2.cell 2; have cq_3_2 : W2.cell? ⟨bq, 3, none⟩ = some (.int .i64 bb) := Bq_2.cell 3; have cq_4_2 : W2.cell? ⟨bq, 4, none⟩ = some (.int .i64 ba) := Bq_2.cell 4; have cq_5_2 : W2.cell? ⟨bq, 5, none⟩ = some (.int .i64 bm0) := Bq_2.cell 5; have cq_6_2 : W2.cell? ⟨bq, 6, none⟩ = some (.int .i64 bm1) := Bq_2.cell 6; have cq_7_2 : W2.cell? ⟨bq, 7, none⟩ = some (.int .i64 bm2) := Bq_2.cell 7; have cq_8_2 : W2.cell? ⟨bq, 8, none⟩ = some (.int .i64 bm3) := Bq_2.cell 8; have cq_9_2 : W2.cell? ⟨bq, 9, none⟩ = some (.int .i64 bm4) := Bq_2.cell 9; have cq_10_2 : W2.cell? ⟨bq, 10, none⟩ = some (.int .i64 bm5) := Bq_2.cell 10; have cq_11_2 : W2.cell? ⟨bq, 11, none⟩ = some (.int .i64 bsp) := Bq_2.cell 11; have cq_12_2 : W2.cell? ⟨bq, 12, none⟩ = some (.slice bsa bst.length bsc) := Bq_2.cell 12; have cq_13_2 : W2.cell? ⟨bq, 13, none⟩ = some (.int .i64 bid) := Bq_2.cell 13))
  go_wp2_with fail
  go_ret
  exact ⟨rfl, Hw2⟩
set_option maxHeartbeats 2000000 in
theorem psame_4 (ak ar ag ab aa am0 am1 am2 am3 am4 am5 asp aid bk br bg bb ba bm0 bm1 bm2 bm3 bm4 bm5 bsp bid : Int) (ast bst : List (List Int)) (asa bsa : Option Addr) (asc bsc : Nat) (w : World) (p0 : (ak == bk) = true) (p1 : ∀ W, (Op.equalIn 10000 23 (.agg #[.int .i64 ar, .int .i64 ag, .int .i64 ab, .int .i64 aa]) (.agg #[.int .i64 br, .int .i64 bg, .int .i64 bb, .int .i64 ba])).run Try.prog W = .ok true W) (p2 : ∀ W, (Op.equalIn 10000 25 (.agg #[.int .i64 am0, .int .i64 am1, .int .i64 am2, .int .i64 am3, .int .i64 am4, .int .i64 am5]) (.agg #[.int .i64 bm0, .int .i64 bm1, .int .i64 bm2, .int .i64 bm3, .int .i64 bm4, .int .i64 bm5])).run Try.prog W = .ok true W) (p3 : (asp == bsp) = true) (p4 : (aid == bid) = false) : Calls Try.prog 13 #[.agg #[.int .i64 ak, .int .i64 ar, .int .i64 ag, .int .i64 ab, .int .i64 aa, .int .i64 am0, .int .i64 am1, .int .i64 am2, .int .i64 am3, .int .i64 am4, .int .i64 am5, .int .i64 asp, .slice asa ast.length asc, .int .i64 aid], .agg #[.int .i64 bk, .int .i64 br, .int .i64 bg, .int .i64 bb, .int .i64 ba, .int .i64 bm0, .int .i64 bm1, .int .i64 bm2, .int .i64 bm3, .int .i64 bm4, .int .i64 bm5, .int .i64 bsp, .slice bsa bst.length bsc, .int .i64 bid]] w fun e w' => e = .returned (.bool false) ∧ Below w.heap.size w w' := by
  go_enter Try.func13, Try.ntmps13
  go_upto_region 1 with (go_big_may; first
    | (refine wl_box 28 _ _ rfl rfl (show _ = Value.agg #[.int .i64 ak, .int .i64 ar, .int .i64 ag, .int .i64 ab, .int .i64 aa, .int .i64 am0, .int .i64 am1, .int .i64 am2, .int .i64 am3, .int .i64 am4, .int .i64 am5, .int .i64 asp, .slice asa ast.length asc, .int .i64 aid] from rfl) ?_; intro W1 bp Bp_1 l1 k1; have gp : w.heap.size ≤ bp := l1; have Hw1 := k1; clear l1 k1)
    | (refine wl_box 28 _ _ rfl rfl (show _ = Value.agg #[.int .i64 bk, .int .i64 br, .int .i64 bg, .int .i64 bb, .int .i64 ba, .int .i64 bm0, .int .i64 bm1, .int .i64 bm2, .int .i64 bm3, .int .i64 bm4, .int .i64 bm5, .int .i64 bsp, .slice bsa bst.length bsc, .int .i64 bid] from rfl) ?_; intro W2 bq Bq_2 l2 k2; have gq : w.heap.size ≤ bq := Nat.le_trans Hw1.size l2; have npq : bp ≠ bq := Nat.ne_of_lt (Nat.lt_of_lt_of_le Bp_1.lt l2); have Bp_2 := Bp_1.keep k2; have Hw2 := bq_trans Hw1 k2; clear l2 k2 Bp_1 Hw1; have cp_0_2 : W2.cell? ⟨bp, 0, none⟩ = some (.int .i64 ak) := Bp_2.cell 0; have cp_1_2 : W2.cell? ⟨bp, 1, none⟩ = some (.int .i64 ar) := Bp_2.cell 1; have cp_2_2 : W2.cell? ⟨bp, 2, none⟩ = some (.int .i64 ag) := Bp_2.cell 2; have cp_3_2 : W2.cell? ⟨bp, 3, none⟩ = some (.int .i64 ab) := Bp_2.cell 3; have cp_4_2 : W2.cell? ⟨bp, 4, none⟩ = some (.int .i64 aa) := Bp_2.cell 4; have cp_5_2 : W2.cell? ⟨bp, 5, none⟩ = some (.int .i64 am0) := Bp_2.cell 5; have cp_6_2 : W2.cell? ⟨bp, 6, none⟩ = some (.int .i64 am1) := Bp_2.cell 6; have cp_7_2 : W2.cell? ⟨bp, 7, none⟩ = some (.int .i64 am2) := Bp_2.cell 7; have cp_8_2 : W2.cell? ⟨bp, 8, none⟩ = some (.int .i64 am3) := Bp_2.cell 8; have cp_9_2 : W2.cell? ⟨bp, 9, none⟩ = some (.int .i64 am4) := Bp_2.cell 9; have cp_10_2 : W2.cell? ⟨bp, 10, none⟩ = some (.int .i64 am5) := Bp_2.cell 10; have cp_11_2 : W2.cell? ⟨bp, 11, none⟩ = some (.int .i64 asp) := Bp_2.cell 11; have cp_12_2 : W2.cell? ⟨bp, 12, none⟩ = some (.slice asa ast.length asc) := Bp_2.cell 12; have cp_13_2 : W2.cell? ⟨bp, 13, none⟩ = some (.int .i64 aid) := Bp_2.cell 13; have cq_0_2 : W2.cell? ⟨bq, 0, none⟩ = some (.int .i64 bk) := Bq_2.cell 0; have cq_1_2 : W2.cell? ⟨bq, 1, none⟩ = some (.int .i64 br) := Bq_2.cell 1; have cq_2_2 : W2.cell? ⟨bq, 2, none⟩ = some (.int .i64 bg) := Bq_2.cell 2; have cq_3_2 : W2.cell? ⟨bq, 3, none⟩ = some (.int .i64 bb) := Bq_2.cell 3; have cq_4_2 : W2.cell? ⟨bq, 4, none⟩ = some (.int .i64 ba) := Bq_2.cell 4; have cq_5_2 : W2.cell? ⟨bq, 5, none⟩ = some (.int .i64 bm0) := Bq_2.cell 5; have cq_6_2 : W2.cell? ⟨bq, 6, none⟩ = some (.int .i64 bm1) := Bq_2.cell 6; have cq_7_2 : W2.cell? ⟨bq, 7, none⟩ = some (.int .i64 bm2) := Bq_2.cell 7; have cq_8_2 : W2.cell? ⟨bq, 8, none⟩ = some (.int .i64 bm3) := Bq_2.cell 8; have cq_9_2 : W2.cell? ⟨bq, 9, none⟩ = some (.int .i64 bm4) := Bq_2.cell 9; have cq_10_2 : W2.cell? ⟨bq, 10, none⟩ = some (.int .i64 bm5) := Bq_2.cell 10; have cq_11_2 : W2.cell? ⟨bq, 11, none⟩ = some (.int .i64 bsp) := Bq_2.cell 11; have cq_12_2 : W2.cell? ⟨bq, 12, none⟩ = some (.slice bsa bst.length bsc) := Bq_2.cell 12; have cq_13_2 : W2.cell? ⟨bq, 13, none⟩ = some (.int .i64 bid) := Bq_2.cell 13))
  go_wp2_with fail
  go_ret
  exact ⟨rfl, Hw2⟩
set_option maxHeartbeats 2000000 in
theorem psame_5 (ak ar ag ab aa am0 am1 am2 am3 am4 am5 asp aid bk br bg bb ba bm0 bm1 bm2 bm3 bm4 bm5 bsp bid : Int) (ast bst : List (List Int)) (asa bsa : Option Addr) (asc bsc : Nat) (w : World) (v : Bool) (p0 : (ak == bk) = true) (p1 : ∀ W, (Op.equalIn 10000 23 (.agg #[.int .i64 ar, .int .i64 ag, .int .i64 ab, .int .i64 aa]) (.agg #[.int .i64 br, .int .i64 bg, .int .i64 bb, .int .i64 ba])).run Try.prog W = .ok true W) (p2 : ∀ W, (Op.equalIn 10000 25 (.agg #[.int .i64 am0, .int .i64 am1, .int .i64 am2, .int .i64 am3, .int .i64 am4, .int .i64 am5]) (.agg #[.int .i64 bm0, .int .i64 bm1, .int .i64 bm2, .int .i64 bm3, .int .i64 bm4, .int .i64 bm5])).run Try.prog W = .ok true W) (p3 : (asp == bsp) = true) (p4 : (aid == bid) = true) (HE : Hid (∀ W, Below w.heap.size w W → Calls Try.prog 29 #[.slice asa ast.length asc, .slice bsa bst.length bsc] W fun e w' => e = .returned (.bool v) ∧ Below W.heap.size W w')) : Calls Try.prog 13 #[.agg #[.int .i64 ak, .int .i64 ar, .int .i64 ag, .int .i64 ab, .int .i64 aa, .int .i64 am0, .int .i64 am1, .int .i64 am2, .int .i64 am3, .int .i64 am4, .int .i64 am5, .int .i64 asp, .slice asa ast.length asc, .int .i64 aid], .agg #[.int .i64 bk, .int .i64 br, .int .i64 bg, .int .i64 bb, .int .i64 ba, .int .i64 bm0, .int .i64 bm1, .int .i64 bm2, .int .i64 bm3, .int .i64 bm4, .int .i64 bm5, .int .i64 bsp, .slice bsa bst.length bsc, .int .i64 bid]] w fun e w' => e = .returned (.bool v) ∧ Below w.heap.size w w' := by
  go_enter Try.func13, Try.ntmps13
  go_upto_region 1 with (go_big_may; first
    | (refine wl_box 28 _ _ rfl rfl (show _ = Value.agg #[.int .i64 ak, .int .i64 ar, .int .i64 ag, .int .i64 ab, .int .i64 aa, .int .i64 am0, .int .i64 am1, .int .i64 am2, .int .i64 am3, .int .i64 am4, .int .i64 am5, .int .i64 asp, .slice asa ast.length asc, .int .i64 aid] from rfl) ?_; intro W1 bp Bp_1 l1 k1; have gp : w.heap.size ≤ bp := l1; have Hw1 := k1; clear l1 k1)
    | (refine wl_box 28 _ _ rfl rfl (show _ = Value.agg #[.int .i64 bk, .int .i64 br, .int .i64 bg, .int .i64 bb, .int .i64 ba, .int .i64 bm0, .int .i64 bm1, .int .i64 bm2, .int .i64 bm3, .int .i64 bm4, .int .i64 bm5, .int .i64 bsp, .slice bsa bst.length bsc, .int .i64 bid] from rfl) ?_; intro W2 bq Bq_2 l2 k2; have gq : w.heap.size ≤ bq := Nat.le_trans Hw1.size l2; have npq : bp ≠ bq := Nat.ne_of_lt (Nat.lt_of_lt_of_le Bp_1.lt l2); have Bp_2 := Bp_1.keep k2; have Hw2 := bq_trans Hw1 k2; clear l2 k2 Bp_1 Hw1; have cp_0_2 : W2.cell? ⟨bp, 0, none⟩ = some (.int .i64 ak) := Bp_2.cell 0; have cp_1_2 : W2.cell? ⟨bp, 1, none⟩ = some (.int .i64 ar) := Bp_2.cell 1; have cp_2_2 : W2.cell? ⟨bp, 2, none⟩ = some (.int .i64 ag) := Bp_2.cell 2; have cp_3_2 : W2.cell? ⟨bp, 3, none⟩ = some (.int .i64 ab) := Bp_2.cell 3; have cp_4_2 : W2.cell? ⟨bp, 4, none⟩ = some (.int .i64 aa) := Bp_2.cell 4; have cp_5_2 : W2.cell? ⟨bp, 5, none⟩ = some (.int .i64 am0) := Bp_2.cell 5; have cp_6_2 : W2.cell? ⟨bp, 6, none⟩ = some (.int .i64 am1) := Bp_2.cell 6; have cp_7_2 : W2.cell? ⟨bp, 7, none⟩ = some (.int .i64 am2) := Bp_2.cell 7; have cp_8_2 : W2.cell? ⟨bp, 8, none⟩ = some (.int .i64 am3) := Bp_2.cell 8; have cp_9_2 : W2.cell? ⟨bp, 9, none⟩ = some (.int .i64 am4) := Bp_2.cell 9; have cp_10_2 : W2.cell? ⟨bp, 10, none⟩ = some (.int .i64 am5) := Bp_2.cell 10; have cp_11_2 : W2.cell? ⟨bp, 11, none⟩ = some (.int .i64 asp) := Bp_2.cell 11; have cp_12_2 : W2.cell? ⟨bp, 12, none⟩ = some (.slice asa ast.length asc) := Bp_2.cell 12; have cp_13_2 : W2.cell? ⟨bp, 13, none⟩ = some (.int .i64 aid) := Bp_2.cell 13; have cq_0_2 : W2.cell? ⟨bq, 0, none⟩ = some (.int .i64 bk) := Bq_2.cell 0; have cq_1_2 : W2.cell? ⟨bq, 1, none⟩ = some (.int .i64 br) := Bq_2.cell 1; have cq_2_2 : W2.cell? ⟨bq, 2, none⟩ = some (.int .i64 bg) := Bq_2.cell 2; have cq_3_2 : W2.cell? ⟨bq, 3, none⟩ = some (.int .i64 bb) := Bq_2.cell 3; have cq_4_2 : W2.cell? ⟨bq, 4, none⟩ = some (.int .i64 ba) := Bq_2.cell 4; have cq_5_2 : W2.cell? ⟨bq, 5, none⟩ = some (.int .i64 bm0) := Bq_2.cell 5; have cq_6_2 : W2.cell? ⟨bq, 6, none⟩ = some (.int .i64 bm1) := Bq_2.cell 6; have cq_7_2 : W2.cell? ⟨bq, 7, none⟩ = some (.int .i64 bm2) := Bq_2.cell 7; have cq_8_2 : W2.cell? ⟨bq, 8, none⟩ = some (.int .i64 bm3) := Bq_2.cell 8; have cq_9_2 : W2.cell? ⟨bq, 9, none⟩ = some (.int .i64 bm4) := Bq_2.cell 9; have cq_10_2 : W2.cell? ⟨bq, 10, none⟩ = some (.int .i64 bm5) := Bq_2.cell 10; have cq_11_2 : W2.cell? ⟨bq, 11, none⟩ = some (.int .i64 bsp) := Bq_2.cell 11; have cq_12_2 : W2.cell? ⟨bq, 12, none⟩ = some (.slice bsa bst.length bsc) := Bq_2.cell 12; have cq_13_2 : W2.cell? ⟨bq, 13, none⟩ = some (.int .i64 bid) := Bq_2.cell 13))
  go_wp2_with (first
    | (go_at_call 29; (with_reducible refine (HE.out _ Hw2).mono ?_); rintro e W3 ⟨rfl, k3⟩; have Bp_3 := Bp_2.keep k3; have Bq_3 := Bq_2.keep k3; have Hw3 := bq_trans Hw2 k3; clear k3 Bp_2 Bq_2 cp_0_2 cp_1_2 cp_2_2 cp_3_2 cp_4_2 cp_5_2 cp_6_2 cp_7_2 cp_8_2 cp_9_2 cp_10_2 cp_11_2 cp_12_2 cp_13_2 cq_0_2 cq_1_2 cq_2_2 cq_3_2 cq_4_2 cq_5_2 cq_6_2 cq_7_2 cq_8_2 cq_9_2 cq_10_2 cq_11_2 cq_12_2 cq_13_2 Hw2))
  go_ret
  exact ⟨rfl, Hw3⟩
theorem psame_any (A B : FV) (s t : Value) (w : World) (hA : A.Fit) (hB : B.Fit) (hs : Stops w s A.st) (ht : Stops w t B.st) :
    Calls Try.prog 13 #[.agg (fillC A s).toArray, .agg (fillC B t).toArray] w fun e w' => e = .returned (.bool (sameF A B)) ∧ Below w.heap.size w w' := by
  obtain ⟨ak, c, m, asp, ast, aid⟩ := A
  obtain ⟨bk, d, n, bsp, bst, bid⟩ := B
  have lc := hA.c
  have lm := hA.m
  have ld := hB.c
  have ln := hB.m
  dsimp only at lc lm ld ln hs ht
  obtain ⟨ar, ag, ab, aa, rfl⟩ := list4 c lc
  obtain ⟨am0, am1, am2, am3, am4, am5, rfl⟩ := list6 m lm
  obtain ⟨br, bg, bb, ba, rfl⟩ := list4 d ld
  obtain ⟨bm0, bm1, bm2, bm3, bm4, bm5, rfl⟩ := list6 n ln
  have HE : Hid (∀ W, Below w.heap.size w W → Calls Try.prog 29 #[s, t] W fun e w' => e = .returned (.bool (decide (ast = bst))) ∧ Below W.heap.size W w') := Lib.hid fun W hW => seq_any ast bst s t W (Sl.keep num5_lasts hs hW) (Sl.keep num5_lasts ht hW)
  obtain ⟨asa, asc, sb, so, rfl, hl, _⟩ := hs.get
  obtain ⟨bsa, bsc, tb, to', rfl, hl2, _⟩ := ht.get
  have E1 := fun W => qRG ar ag ab aa br bg bb ba W
  have E2 := fun W => qMT am0 am1 am2 am3 am4 am5 bm0 bm1 bm2 bm3 bm4 bm5 W
  show Calls Try.prog 13 #[.agg #[.int .i64 ak, .int .i64 ar, .int .i64 ag, .int .i64 ab, .int .i64 aa, .int .i64 am0, .int .i64 am1, .int .i64 am2, .int .i64 am3, .int .i64 am4, .int .i64 am5, .int .i64 asp, .slice asa ast.length asc, .int .i64 aid], .agg #[.int .i64 bk, .int .i64 br, .int .i64 bg, .int .i64 bb, .int .i64 ba, .int .i64 bm0, .int .i64 bm1, .int .i64 bm2, .int .i64 bm3, .int .i64 bm4, .int .i64 bm5, .int .i64 bsp, .slice bsa bst.length bsc, .int .i64 bid]] w fun e w' => e = .returned (.bool (decide (ak = bk) && decide ([ar, ag, ab, aa] = [br, bg, bb, ba]) && decide ([am0, am1, am2, am3, am4, am5] = [bm0, bm1, bm2, bm3, bm4, bm5]) && decide (asp = bsp) && decide (aid = bid) && decide (ast = bst))) ∧ Below w.heap.size w w'
  cases b0 : decide (ak = bk)
  · exact psame_0 ak ar ag ab aa am0 am1 am2 am3 am4 am5 asp aid bk br bg bb ba bm0 bm1 bm2 bm3 bm4 bm5 bsp bid ast bst asa bsa asc bsc w b0
  cases b1 : decide ([ar, ag, ab, aa] = [br, bg, bb, ba]) <;> rw [b1] at E1
  · exact psame_1 ak ar ag ab aa am0 am1 am2 am3 am4 am5 asp aid bk br bg bb ba bm0 bm1 bm2 bm3 bm4 bm5 bsp bid ast bst asa bsa asc bsc w b0 E1
  cases b2 : decide ([am0, am1, am2, am3, am4, am5] = [bm0, bm1, bm2, bm3, bm4, bm5]) <;> rw [b2] at E2
  · exact psame_2 ak ar ag ab aa am0 am1 am2 am3 am4 am5 asp aid bk br bg bb ba bm0 bm1 bm2 bm3 bm4 bm5 bsp bid ast bst asa bsa asc bsc w b0 E1 E2
  cases b3 : decide (asp = bsp)
  · exact psame_3 ak ar ag ab aa am0 am1 am2 am3 am4 am5 asp aid bk br bg bb ba bm0 bm1 bm2 bm3 bm4 bm5 bsp bid ast bst asa bsa asc bsc w b0 E1 E2 b3
  cases b4 : decide (aid = bid)
  · exact psame_4 ak ar ag ab aa am0 am1 am2 am3 am4 am5 asp aid bk br bg bb ba bm0 bm1 bm2 bm3 bm4 bm5 bsp bid ast bst asa bsa asc bsc w b0 E1 E2 b3 b4
  · exact psame_5 ak ar ag ab aa am0 am1 am2 am3 am4 am5 asp aid bk br bg bb ba bm0 bm1 bm2 bm3 bm4 bm5 bsp bid ast bst asa bsa asc bsc w _ b0 E1 E2 b3 b4 HE
end Go.Proofs.Ythlnjipefeglpaa
