import Derived.Test.YthlnjipefeglpaaZT35
import Derived.Test.YthlnjipefeglpaaZT25
namespace Go.Proofs.Ythlnjipefeglpaa
open Go.RowKit
set_option linter.unusedVariables false
set_option linter.unusedSimpArgs false
set_option maxRecDepth 100000
theorem size65g8 : (Try.prog.info? 65).map (·.size) = some 5 := by kernel_rfl
theorem size26g8 : (Try.prog.info? 26).map (·.size) = some 1 := by kernel_rfl
theorem zeroSP8 (w : World) : (zeroValue 65).run Try.prog w = .ok (.agg #[.int .i64 0, .int .i64 0, .int .i64 0, .int .i64 0, .int .i64 0]) w := Try.zeroValue65 w
def FlRel (w : World) (WB : Nat) (u : RS) (N bx bf bo bp : Nat) (f : Value → Array Value) (i : Value) (wr : World) : Prop :=
  ∃ (k : Nat) (sv : Value), k ≤ N ∧ i = .int .i64 k ∧ Blk wr bx (stopsT u k).2.cells 53 ∧ Blk wr bf (f sv) 28 ∧ Blk wr bo #[.int .i64 0, .int .i64 0, .int .i64 0, .int .i64 0, .int .i64 0, .int .i64 0, .int .i64 0, .int .i64 0, .int .i64 0, .int .i64 0, .int .i64 0, .int .i64 0, .slice none 0 0, .int .i64 0] 28 ∧ Blk wr bp #[.string ⟨#[]⟩, .int .i64 0, .int .i64 0] 53 ∧
    OwnP wr WB 65 sv (stopsT u k).1 ∧ (stopsT u k).1.length = k ∧ Below w.heap.size w wr ∧ WB ≤ wr.heap.size
set_option maxHeartbeats 8000000 in
theorem rfill_16_ok (N : Nat) (n xa xe ya ye za ze qa m0 m1 m2 m3 m4 m5 : Int) (xs ys zs qs : ByteArray) (w : World) (HL : Hid (∀ W, Calls Try.prog 45 #[.agg #[.string xs, .int .i64 xa, .int .i64 xe], .int .i64 1] W fun e w' => e = .returned (.tuple #[.int .i64 16, .agg #[.string ys, .int .i64 ya, .int .i64 ye]]) ∧ Below W.heap.size W w')) (HM : Hid (∀ W, Calls Try.prog 63 #[.agg #[.string ys, .int .i64 ya, .int .i64 ye]] W fun e w' => e = .returned (.tuple #[.agg #[.int .i64 m0, .int .i64 m1, .int .i64 m2, .int .i64 m3, .int .i64 m4, .int .i64 m5], .agg #[.string zs, .int .i64 za, .int .i64 ze]]) ∧ Below W.heap.size W w')) (HN : Hid (∀ W, Calls Try.prog 45 #[.agg #[.string zs, .int .i64 za, .int .i64 ze], .int .i64 1] W fun e w' => e = .returned (.tuple #[.int .i64 n, .agg #[.string qs, .int .i64 qa, .int .i64 0]]) ∧ Below W.heap.size W w')) (n0 : 0 ≤ n) (n1 : n ≤ 255) (w0 : decide ((2 : Int) < n / 64) = false) (w1 : decide ((0 : Int) < n / 16 % 4) = false) (w2 : (n % 16 == 0) = false) (w3 : decide ((8 : Int) < n % 16) = false) (hN : n % 16 = (N : Int)) (hqs : qs.size ≤ 1000000) :
    Calls Try.prog 46 #[.agg #[.string xs, .int .i64 xa, .int .i64 xe]] w fun e w' => ∃ sv, e = .returned (.tuple #[.agg #[.int .i64 16, .int .i64 0, .int .i64 0, .int .i64 0, .int .i64 0, .int .i64 m0, .int .i64 m1, .int .i64 m2, .int .i64 m3, .int .i64 m4, .int .i64 m5, .int .i64 (n / 64), sv, .int .i64 0], .agg (stopsT (⟨qs, qa, 0⟩ : RS) N).2.cells]) ∧ OwnP w' w.heap.size 65 sv (stopsT (⟨qs, qa, 0⟩ : RS) N).1 ∧ Below w.heap.size w w' := by
  have HSZ := Lib.hid hqs
  have HN16 : Hid (N ≤ 15) := Lib.hid (by omega)
  have HNN := Lib.hid hN
  clear hqs hN
  go_enter Try.func46, Try.ntmps46
  go_upto_region 18 with (go_big_may; first
    | (refine wl_box 53 _ _ rfl rfl (show _ = Value.agg #[.string xs, .int .i64 xa, .int .i64 xe] from rfl) ?_; intro W1 bx Bx_1 l1 k1; have gx : w.heap.size ≤ bx := l1; have Hw1 := k1; clear l1 k1)
    | (refine wl_alloc 28 _ zeroFL8 rfl rfl ?_; intro W2 bo Bo_2 l2 k2; have go : w.heap.size ≤ bo := Nat.le_trans Hw1.size l2; have nxo : bx ≠ bo := Nat.ne_of_lt (Nat.lt_of_lt_of_le Bx_1.lt l2); have Bx_2 := Bx_1.keep k2; have Hw2 := bq_trans Hw1 k2; clear l2 k2 Bx_1 Hw1)
    | (refine wl_alloc 53 _ zero62 rfl rfl ?_; intro W3 bp Bp_3 l3 k3; have gp : w.heap.size ≤ bp := Nat.le_trans Hw2.size l3; have nxp : bx ≠ bp := Nat.ne_of_lt (Nat.lt_of_lt_of_le Bx_2.lt l3); have nop : bo ≠ bp := Nat.ne_of_lt (Nat.lt_of_lt_of_le Bo_2.lt l3); have Bx_3 := Bx_2.keep k3; have Bo_3 := Bo_2.keep k3; have Hw3 := bq_trans Hw2 k3; clear l3 k3 Bx_2 Bo_2 Hw2)
    | (refine wl_alloc 28 _ zeroFL8 rfl rfl ?_; intro W4 bf Bf_4 l4 k4; have gf : w.heap.size ≤ bf := Nat.le_trans Hw3.size l4; have nxf : bx ≠ bf := Nat.ne_of_lt (Nat.lt_of_lt_of_le Bx_3.lt l4); have nof : bo ≠ bf := Nat.ne_of_lt (Nat.lt_of_lt_of_le Bo_3.lt l4); have npf : bp ≠ bf := Nat.ne_of_lt (Nat.lt_of_lt_of_le Bp_3.lt l4); have Bx_4 := Bx_3.keep k4; have Bo_4 := Bo_3.keep k4; have Bp_4 := Bp_3.keep k4; have Hw4 := bq_trans Hw3 k4; clear l4 k4 Bx_3 Bo_3 Bp_3 Hw3)
    | (refine wl_store 28 14 size28g8 _ _ rfl rfl _ rfl #[.int .i64 0, .int .i64 0, .int .i64 0, .int .i64 0, .int .i64 0, .int .i64 0, .int .i64 0, .int .i64 0, .int .i64 0, .int .i64 0, .int .i64 0, .int .i64 0, .slice none 0 0, .int .i64 0] rfl _ _ Bf_4 rfl rfl (by kernel_rfl) ?_; intro W5 Bf_5 T5; have Bx_5 := T5.blk Bx_4 nxf; have Bo_5 := T5.blk Bo_4 nof; have Bp_5 := T5.blk Bp_4 npf; have Hw5 := T5.below Hw4 gf; clear T5 Bx_4 Bo_4 Bp_4 Bf_4 Hw4)
    | (refine wl_load 53 3 _ Try.underlying53 rfl size62 _ rfl rfl _ rfl _ _ Bx_5 rfl ?_)
    | (go_at_call 45; (with_reducible refine (HL.out _).mono ?_); rintro e W6 ⟨rfl, k6⟩; have Bx_6 := Bx_5.keep k6; have Bo_6 := Bo_5.keep k6; have Bp_6 := Bp_5.keep k6; have Bf_6 := Bf_5.keep k6; have Hw6 := bq_trans Hw5 k6; clear k6 Bx_5 Bo_5 Bp_5 Bf_5 Hw5)
    | (refine wl_set 3 _ _ rfl rfl bf 0 rfl (.int .i64 16) rfl rfl size3s _ _ Bf_6 (by decide : 0 < 14) ?_; intro W7 Bf_7 T7; have Bx_7 := T7.blk Bx_6 nxf; have Bo_7 := T7.blk Bo_6 nof; have Bp_7 := T7.blk Bp_6 npf; have Hw7 := T7.below Hw6 gf; clear T7 Bx_6 Bo_6 Bp_6 Bf_6 Hw6)
    | (refine wl_store 53 3 size62 _ _ rfl rfl _ rfl #[.string ys, .int .i64 ya, .int .i64 ye] rfl _ _ Bx_7 rfl rfl (by kernel_rfl) ?_; intro W8 Bx_8 T8; have Bo_8 := T8.blk Bo_7 (Ne.symm nxo); have Bp_8 := T8.blk Bp_7 (Ne.symm nxp); have Bf_8 := T8.blk Bf_7 (Ne.symm nxf); have Hw8 := T8.below Hw7 gx; clear T8 Bo_7 Bp_7 Bf_7 Bx_7 Hw7; have cf_0_8 : W8.cell? ⟨bf, 0, none⟩ = some (.int .i64 16) := Bf_8.cell 0)
    | (refine wl_load 53 3 _ Try.underlying53 rfl size62 _ rfl rfl _ rfl _ _ Bx_8 rfl ?_)
    | (go_at_call 63; (with_reducible refine (HM.out _).mono ?_); rintro e W9 ⟨rfl, k9⟩; have Bx_9 := Bx_8.keep k9; have Bo_9 := Bo_8.keep k9; have Bp_9 := Bp_8.keep k9; have Bf_9 := Bf_8.keep k9; have Hw9 := bq_trans Hw8 k9; clear k9 Bx_8 Bo_8 Bp_8 Bf_8 cf_0_8 Hw8)
    | (refine wl_putAt 25 _ _ rfl rfl bf 5 rfl #[.int .i64 m0, .int .i64 m1, .int .i64 m2, .int .i64 m3, .int .i64 m4, .int .i64 m5] rfl size25g8 (by kernel_rfl) _ _ Bf_9 (by decide : 5 + 6 ≤ 14) #[.int .i64 16, .int .i64 0, .int .i64 0, .int .i64 0, .int .i64 0, .int .i64 m0, .int .i64 m1, .int .i64 m2, .int .i64 m3, .int .i64 m4, .int .i64 m5, .int .i64 0, .slice none 0 0, .int .i64 0] (by kernel_rfl) ?_; intro W10 Bf_10 T10; have Bx_10 := T10.blk Bx_9 nxf; have Bo_10 := T10.blk Bo_9 nof; have Bp_10 := T10.blk Bp_9 npf; have Hw10 := T10.below Hw9 gf; clear T10 Bx_9 Bo_9 Bp_9 Bf_9 Hw9)
    | (refine wl_store 53 3 size62 _ _ rfl rfl _ rfl #[.string zs, .int .i64 za, .int .i64 ze] rfl _ _ Bx_10 rfl rfl (by kernel_rfl) ?_; intro W11 Bx_11 T11; have Bo_11 := T11.blk Bo_10 (Ne.symm nxo); have Bp_11 := T11.blk Bp_10 (Ne.symm nxp); have Bf_11 := T11.blk Bf_10 (Ne.symm nxf); have Hw11 := T11.below Hw10 gx; clear T11 Bo_10 Bp_10 Bf_10 Bx_10 Hw10)
    | (refine wl_load 53 3 _ Try.underlying53 rfl size62 _ rfl rfl _ rfl _ _ Bx_11 rfl ?_)
    | (go_at_call 45; (with_reducible refine (HN.out _).mono ?_); rintro e W12 ⟨rfl, k12⟩; have Bx_12 := Bx_11.keep k12; have Bo_12 := Bo_11.keep k12; have Bp_12 := Bp_11.keep k12; have Bf_12 := Bf_11.keep k12; have Hw12 := bq_trans Hw11 k12; clear k12 Bx_11 Bo_11 Bp_11 Bf_11 Hw11)
    | (refine wl_store 53 3 size62 _ _ rfl rfl _ rfl #[.string qs, .int .i64 qa, .int .i64 0] rfl _ _ Bx_12 rfl rfl (by kernel_rfl) ?_; intro W13 Bx_13 T13; have Bo_13 := T13.blk Bo_12 (Ne.symm nxo); have Bp_13 := T13.blk Bp_12 (Ne.symm nxp); have Bf_13 := T13.blk Bf_12 (Ne.symm nxf); have Hw13 := T13.below Hw12 gx; clear T13 Bo_12 Bp_12 Bf_12 Bx_12 Hw12)
    | (refine wl_set 3 _ _ rfl rfl bf 11 rfl (.int .i64 (n / 64)) rfl rfl size3s _ _ Bf_13 (by decide : 11 < 14) ?_; intro W14 Bf_14 T14; have Bx_14 := T14.blk Bx_13 nxf; have Bo_14 := T14.blk Bo_13 nof; have Bp_14 := T14.blk Bp_13 npf; have Hw14 := T14.below Hw13 gf; clear T14 Bx_13 Bo_13 Bp_13 Bf_13 Hw13; have cx_2_14 : W14.cell? ⟨bx, 2, none⟩ = some (.int .i64 0) := Bx_14.cell 2; have cf_11_14 : W14.cell? ⟨bf, 11, none⟩ = some (.int .i64 (n / 64)) := Bf_14.cell 11))
  go_upto_region 20 with (fail)
  go_wp2_with fail
  clear cx_2_14 cf_11_14 w0 w1 w2 w3
  have BF8 : Blk W14 bf #[.int .i64 16, .int .i64 0, .int .i64 0, .int .i64 0, .int .i64 0, .int .i64 m0, .int .i64 m1, .int .i64 m2, .int .i64 m3, .int .i64 m4, .int .i64 m5, .int .i64 (n / 64), .slice none 0 0, .int .i64 0] 28 := Bf_14
  have BX8 : Blk W14 bx (stopsT (⟨qs, qa, 0⟩ : RS) 0).2.cells 53 := Bx_14
  have BO8 := Bo_14
  have BP8 := Bp_14
  have HW8 := Hw14
  clear Hw14 Bf_14 Bx_14 Bo_14 Bp_14 HL HM HN
  generalize W14 = WB at *
  rw [HNN.out]
  obtain ⟨q64, hq64⟩ : ∃ q, q = n / 64 := ⟨_, rfl⟩
  rw [← hq64] at BF8 ⊢
  have HQ := Lib.hid hq64
  clear hq64
  clear HNN n0 n1
  have ltx := BX8.lt
  have ltf := BF8.lt
  have lto := BO8.lt
  have ltp := BP8.lt
  have le := HW8.size
  go_loopw [7, 8] (fun i _ wr => FlRel w WB.heap.size (⟨qs, qa, 0⟩ : RS) N bx bf bo bp (fun sv => #[.int .i64 16, .int .i64 0, .int .i64 0, .int .i64 0, .int .i64 0, .int .i64 m0, .int .i64 m1, .int .i64 m2, .int .i64 m3, .int .i64 m4, .int .i64 m5, .int .i64 q64, sv, .int .i64 0]) i wr) (fun i _ _ => N - (intOf i).toNat)
  case atStart => exact ⟨0, .slice none 0 0, by omega, rfl, BX8, BF8, BO8, BP8, ownP_nil _ _ _, rfl, HW8, Nat.le_refl _⟩
  case round =>
    obtain ⟨k, sv, hk, rfl, BX, BF0, BO, BP, hown, hlen, hbel, hWB⟩ := hrel
    have BF : Blk wr bf #[.int .i64 16, .int .i64 0, .int .i64 0, .int .i64 0, .int .i64 0, .int .i64 m0, .int .i64 m1, .int .i64 m2, .int .i64 m3, .int .i64 m4, .int .i64 m5, .int .i64 q64, sv, .int .i64 0] 28 := BF0
    clear BX8 BF8 BO8 BP8 HW8 BF0
    have HEX : Hid (N ≤ k ∨ (stopsT (⟨qs, qa, 0⟩ : RS) k).2.e ≠ 0 → stopsT (⟨qs, qa, 0⟩ : RS) N = stopsT (⟨qs, qa, 0⟩ : RS) k) := Lib.hid (fun h => by
      by_cases hkn : N ≤ k
      · rw [show N = k by omega]
      · have := stops_stuck (h.resolve_left hkn) (N - k)
        rwa [show k + (N - k) = N by omega] at this)
    have hys : (stopsT (⟨qs, qa, 0⟩ : RS) k).2.s.size ≤ 1000000 := stops_size HSZ.out k
    have HST : Hid (∀ L y, stopsT (⟨qs, qa, 0⟩ : RS) k = (L, y) → y.e = 0 → stopsT (⟨qs, qa, 0⟩ : RS) (k + 1) = (L ++ [y.li 1 :: (stopX L y).cv], (stopX L y).cvS)) := Lib.hid (fun L y h he => by
      show stopStep (stopsT (⟨qs, qa, 0⟩ : RS) k) = _
      rw [h]
      exact if_pos he)
    have HFV : Hid (∀ x ∈ (stopsT (⟨qs, qa, 0⟩ : RS) (k + 1)).1, x.length = 5 ∧ ∀ v ∈ x, I64 v) := Lib.hid (stops_five _ _)
    obtain ⟨L, y, hLy⟩ : ∃ L y, stopsT (⟨qs, qa, 0⟩ : RS) k = (L, y) := ⟨_, _, rfl⟩
    have HST2 := Lib.hid (HST.out L y hLy)
    rw [hLy] at BX hown hlen hys HEX
    clear HST hLy
    dsimp only at BX hown hlen hys HEX
    obtain ⟨ys, ya, ye⟩ := y
    have HB := Lib.hid hbel
    clear hbel
    have cx2 : wr.cell? ⟨bx, 2, none⟩ = some (.int .i64 ye) := BX.cell 2
    by_cases hlt : k < N
    · by_cases he : ye = 0
      · subst he
        have HST3 := Lib.hid (HST2.out rfl)
        have HLI : Hid (∀ W, Calls Try.prog 45 #[.agg #[.string ys, .int .i64 ya, .int .i64 0], .int .i64 1] W fun e w' => e = .returned (.tuple #[.int .i64 ((⟨ys, ya, 0⟩ : RS).li 1), .agg ((⟨ys, ya, 0⟩ : RS).liS 1).cells]) ∧ Below W.heap.size W w') := Lib.hid fun W => rlittle8_any ⟨ys, ya, 0⟩ 1 W hys (by decide) (by decide)
        have hy1 : ((⟨ys, ya, 0⟩ : RS).liS 1).s.size ≤ 1000000 := RS.liS_size _ 1 hys
        have HVB := Lib.hid (li1_bd ⟨ys, ya, 0⟩)
        have HST4 : Hid (stopsT (⟨qs, qa, 0⟩ : RS) (k + 1) = (L ++ [(⟨ys, ya, 0⟩ : RS).li 1 :: (((⟨ys, ya, 0⟩ : RS).liS 1).dem (decide ((⟨ys, ya, 0⟩ : RS).li 1 < lastR 0 L)) 3).cv], (((⟨ys, ya, 0⟩ : RS).liS 1).dem (decide ((⟨ys, ya, 0⟩ : RS).li 1 < lastR 0 L)) 3).cvS)) := HST3
        clear HST2 HST3 HEX hys
        generalize (⟨ys, ya, 0⟩ : RS).li 1 = v at *
        generalize (⟨ys, ya, 0⟩ : RS).liS 1 = y1 at *
        obtain ⟨us, ua, ue⟩ := y1
        have BX1 : Blk wr bx #[.string ys, .int .i64 ya, .int .i64 0] 53 := BX
        have cf12 : wr.cell? ⟨bf, 12, none⟩ = some sv := BF.cell 12
        have HP := Lib.hid hown
        have OM : OwnM wr WB.heap.size wr.heap.size 65 sv L := hown.m
        have SM : SzM wr WB.heap.size wr.heap.size := ⟨Nat.le_refl _⟩
        have HBw := HB.out
        have HWB := Lib.hid hWB
        have HLN := Lib.hid hlen
        have i2 : (k : Int) < (N : Int) := by omega
        have hN15 := HN16.out
        clear BX hown hWB hlen HB
        by_cases e1 : ue = 0
        rotate_left
        · have q1 : (ue == 0) = false := beq_eq_false_iff_ne.2 e1
          obtain ⟨z, hz⟩ : ∃ z : RS, z = (⟨us, ua, ue⟩ : RS) := ⟨_, rfl⟩
          have HZ0 : Hid (stopsT (⟨qs, qa, 0⟩ : RS) (k + 1) = (L ++ [v :: z.cv], z.cvS)) := Lib.hid (by rw [HST4.out, RS.dem_err (x := ⟨us, ua, ue⟩) e1, hz])
          have hzs : z.s.size ≤ 1000000 := by rw [hz]; exact hy1
          obtain ⟨r, g, b, a, hcv⟩ := list4 _ (cv_len z)
          have HC0 := Lib.hid (fun W => rcolor8_any z W hzs)
          rw [hcv] at HC0 HZ0
          generalize z.cvS = z1 at *
          obtain ⟨t0, t1, t2⟩ := z1
          rw [hz] at HC0
          have HC : Hid (∀ W, Calls Try.prog 47 #[.agg #[.string us, .int .i64 ua, .int .i64 ue]] W fun e w' => e = .returned (.tuple #[.agg #[.int .i64 r, .int .i64 g, .int .i64 b, .int .i64 a], .agg #[.string t0, .int .i64 t1, .int .i64 t2]]) ∧ Below W.heap.size W w') := HC0
          have HZ := HZ0
          have H5 : Hid (∀ x ∈ [v, r, g, b, a], I64 x) := Lib.hid (fun x hx => (HFV.out [v, r, g, b, a] (by rw [HZ.out]; simp)).2 x hx)
          have HLE : Hid ((L.map iL).length ≤ 1000000) := Lib.hid (by rw [List.length_map, HLN.out]; have := HN16.out; omega)
          clear HC0 HZ0 hcv hzs hz hy1 HST4 HFV
          go_upto_region 25 with (go_big_may; first
            | (refine wl_alloc 65 _ zeroSP8 rfl rfl ?_; intro W21 bs Bs_21 l21 k21; have gs : w.heap.size ≤ bs := Nat.le_trans HBw.size l21; have nxs : bx ≠ bs := Nat.ne_of_lt (Nat.lt_of_lt_of_le BX1.lt l21); have nfs : bf ≠ bs := Nat.ne_of_lt (Nat.lt_of_lt_of_le BF.lt l21); have nos : bo ≠ bs := Nat.ne_of_lt (Nat.lt_of_lt_of_le BO.lt l21); have nps : bp ≠ bs := Nat.ne_of_lt (Nat.lt_of_lt_of_le BP.lt l21); have los := Nat.le_trans SM.le l21; have Bx_21 := BX1.keep k21; have Bf_21 := BF.keep k21; have Bo_21 := BO.keep k21; have Bp_21 := BP.keep k21; have Ov_21 := OM.keep k21; have Om_21 := SM.keep k21; have Hw21 := bq_trans HBw k21; clear l21 k21 BX1 BF BO BP OM SM HBw)
            | (refine wl_store 65 5 size65g8 _ _ rfl rfl _ rfl #[.int .i64 0, .int .i64 0, .int .i64 0, .int .i64 0, .int .i64 0] rfl _ _ Bs_21 rfl rfl (by kernel_rfl) ?_; intro W22 Bs_22 T22; have Bx_22 := T22.blk Bx_21 nxs; have Bf_22 := T22.blk Bf_21 nfs; have Bo_22 := T22.blk Bo_21 nos; have Bp_22 := T22.blk Bp_21 nps; have Ov_22 := Ov_21.turned T22 (Or.inr los); have Om_22 := Om_21.turned T22 (Or.inr los); have Hw22 := T22.below Hw21 gs; clear T22 Bx_21 Bf_21 Bo_21 Bp_21 Ov_21 Om_21 Bs_21 Hw21)
            | (refine wl_load 53 3 _ Try.underlying53 rfl size62 _ rfl rfl _ rfl _ _ Bx_22 rfl ?_)
            | (go_at_call 45; (with_reducible refine (HLI.out _).mono ?_); rintro e W23 ⟨rfl, k23⟩; have Bx_23 := Bx_22.keep k23; have Bf_23 := Bf_22.keep k23; have Bo_23 := Bo_22.keep k23; have Bp_23 := Bp_22.keep k23; have Bs_23 := Bs_22.keep k23; have Ov_23 := Ov_22.keep k23; have Om_23 := Om_22.keep k23; have Hw23 := bq_trans Hw22 k23; clear k23 Bx_22 Bf_22 Bo_22 Bp_22 Bs_22 Ov_22 Om_22 Hw22)
            | (refine wl_set 3 _ _ rfl rfl bs 0 rfl (.int .i64 v) rfl rfl size3s _ _ Bs_23 (by decide : 0 < 5) ?_; intro W24 Bs_24 T24; have Bx_24 := T24.blk Bx_23 nxs; have Bf_24 := T24.blk Bf_23 nfs; have Bo_24 := T24.blk Bo_23 nos; have Bp_24 := T24.blk Bp_23 nps; have Ov_24 := Ov_23.turned T24 (Or.inr los); have Om_24 := Om_23.turned T24 (Or.inr los); have Hw24 := T24.below Hw23 gs; clear T24 Bx_23 Bf_23 Bo_23 Bp_23 Ov_23 Om_23 Bs_23 Hw23)
            | (refine wl_store 53 3 size62 _ _ rfl rfl _ rfl #[.string us, .int .i64 ua, .int .i64 ue] rfl _ _ Bx_24 rfl rfl (by kernel_rfl) ?_; intro W25 Bx_25 T25; have Bf_25 := T25.blk Bf_24 (Ne.symm nxf); have Bo_25 := T25.blk Bo_24 (Ne.symm nxo); have Bp_25 := T25.blk Bp_24 (Ne.symm nxp); have Bs_25 := T25.blk Bs_24 (Ne.symm nxs); have Ov_25 := Ov_24.turned T25 (Or.inl ltx); have Om_25 := Om_24.turned T25 (Or.inl ltx); have Hw25 := T25.below Hw24 gx; clear T25 Bf_24 Bo_24 Bp_24 Bs_24 Ov_24 Om_24 Bx_24 Hw24; have cx_2_25 : W25.cell? ⟨bx, 2, none⟩ = some (.int .i64 ue) := Bx_25.cell 2))
          clear cx_2_25
          refine Det.wp_region_det (S := fun w' => Below W25.heap.size W25 w') (by kernel_rfl) (by kernel_rfl) (bq_drew (bq_refl _)) ?_
          refine Det.det_take (v := ?_) (by rfl) ?_ ?_
          rotate_left
          · (intro w hSw; go_simp; try with_reducible rfl)
          try simp only [Act.put, List.setIfInBounds_toArray, List.set_cons_zero, List.set_cons_succ]
          refine Det.det_take (v := ?_) (by rfl) ?_ ?_
          rotate_left
          · (intro w hSw; have cc := (Bx_25.keep hSw).cell 2; go_simp; try with_reducible rfl)
          try simp only [Act.put, List.setIfInBounds_toArray, List.set_cons_zero, List.set_cons_succ]
          refine Det.det_take (v := ?_) (by rfl) ?_ ?_
          rotate_left
          · (intro w hSw; go_simp; try with_reducible rfl)
          try simp only [Act.put, List.setIfInBounds_toArray, List.set_cons_zero, List.set_cons_succ]
          refine Det.det_take (v := ?_) (by rfl) ?_ ?_
          rotate_left
          · (intro w hSw; go_simp; try with_reducible rfl)
          try simp only [Act.put, List.setIfInBounds_toArray, List.set_cons_zero, List.set_cons_succ]
          refine Det.det_skip (by rfl) ?_
          try simp only [Act.put, List.setIfInBounds_toArray, List.set_cons_zero, List.set_cons_succ]
          refine Det.det_skip (by rfl) ?_
          try simp only [Act.put, List.setIfInBounds_toArray, List.set_cons_zero, List.set_cons_succ]
          refine Det.det_take (v := ?_) (by rfl) ?_ ?_
          rotate_left
          · (intro w hSw; go_simp; try with_reducible rfl)
          try simp only [Act.put, List.setIfInBounds_toArray, List.set_cons_zero, List.set_cons_succ]
          refine Det.det_take (v := ?_) (by rfl) ?_ ?_
          rotate_left
          · (intro w hSw; go_simp; try with_reducible rfl)
          try simp only [Act.put, List.setIfInBounds_toArray, List.set_cons_zero, List.set_cons_succ]
          refine Det.det_skip (by rfl) ?_
          try simp only [Act.put, List.setIfInBounds_toArray, List.set_cons_zero, List.set_cons_succ]
          refine Det.det_skip (by rfl) ?_
          try simp only [Act.put, List.setIfInBounds_toArray, List.set_cons_zero, List.set_cons_succ]
          refine Det.det_skip (by rfl) ?_
          try simp only [Act.put, List.setIfInBounds_toArray, List.set_cons_zero, List.set_cons_succ]
          refine Det.det_skip (by rfl) ?_
          try simp only [Act.put, List.setIfInBounds_toArray, List.set_cons_zero, List.set_cons_succ]
          refine Det.det_skip (by rfl) ?_
          try simp only [Act.put, List.setIfInBounds_toArray, List.set_cons_zero, List.set_cons_succ]
          refine Det.det_skip (by rfl) ?_
          try simp only [Act.put, List.setIfInBounds_toArray, List.set_cons_zero, List.set_cons_succ]
          refine Det.det_skip (by rfl) ?_
          try simp only [Act.put, List.setIfInBounds_toArray, List.set_cons_zero, List.set_cons_succ]
          refine Det.det_skip (by rfl) ?_
          try simp only [Act.put, List.setIfInBounds_toArray, List.set_cons_zero, List.set_cons_succ]
          refine Det.det_skip (by rfl) ?_
          try simp only [Act.put, List.setIfInBounds_toArray, List.set_cons_zero, List.set_cons_succ]
          refine Det.det_skip (by rfl) ?_
          try simp only [Act.put, List.setIfInBounds_toArray, List.set_cons_zero, List.set_cons_succ]
          refine Det.det_take (v := ?_) (by rfl) ?_ ?_
          rotate_left
          · (intro w hSw; go_simp; try with_reducible rfl)
          try simp only [Act.put, List.setIfInBounds_toArray, List.set_cons_zero, List.set_cons_succ]
          refine Det.det_nil (fun W26 k26 => ?_)
          have Bx_26 := Bx_25.keep k26
          have Bf_26 := Bf_25.keep k26
          have Bo_26 := Bo_25.keep k26
          have Bp_26 := Bp_25.keep k26
          have Bs_26 := Bs_25.keep k26
          have Ov_26 := Ov_25.keep k26
          have Om_26 := Om_25.keep k26
          have Hw26 := bq_trans Hw25 k26
          clear k26 Bx_25 Bf_25 Bo_25 Bp_25 Bs_25 Ov_25 Om_25 Hw25
          have BXz : Blk W26 bx #[.string us, .int .i64 ua, .int .i64 ue] 53 := Bx_26
          clear Bx_26
          go_upto_region 28 with (go_big_may; first
            | (refine wl_load 53 3 _ Try.underlying53 rfl size62 _ rfl rfl _ rfl _ _ BXz rfl ?_)
            | (go_at_call 47; (with_reducible refine (HC.out _).mono ?_); rintro e W27 ⟨rfl, k27⟩; have Bx_27 := BXz.keep k27; have Bf_27 := Bf_26.keep k27; have Bo_27 := Bo_26.keep k27; have Bp_27 := Bp_26.keep k27; have Bs_27 := Bs_26.keep k27; have Ov_27 := Ov_26.keep k27; have Om_27 := Om_26.keep k27; have Hw27 := bq_trans Hw26 k27; clear k27 BXz Bf_26 Bo_26 Bp_26 Bs_26 Ov_26 Om_26 Hw26)
            | (refine wl_putAt 23 _ _ rfl rfl bs 1 rfl #[.int .i64 r, .int .i64 g, .int .i64 b, .int .i64 a] rfl size23g8 (by kernel_rfl) _ _ Bs_27 (by decide : 1 + 4 ≤ 5) #[.int .i64 v, .int .i64 r, .int .i64 g, .int .i64 b, .int .i64 a] (by kernel_rfl) ?_; intro W28 Bs_28 T28; have Bx_28 := T28.blk Bx_27 nxs; have Bf_28 := T28.blk Bf_27 nfs; have Bo_28 := T28.blk Bo_27 nos; have Bp_28 := T28.blk Bp_27 nps; have Ov_28 := Ov_27.turned T28 (Or.inr los); have Om_28 := Om_27.turned T28 (Or.inr los); have Hw28 := T28.below Hw27 gs; clear T28 Bx_27 Bf_27 Bo_27 Bp_27 Ov_27 Om_27 Bs_27 Hw27)
            | (refine wl_store 53 3 size62 _ _ rfl rfl _ rfl #[.string t0, .int .i64 t1, .int .i64 t2] rfl _ _ Bx_28 rfl rfl (by kernel_rfl) ?_; intro W29 Bx_29 T29; have Bf_29 := T29.blk Bf_28 (Ne.symm nxf); have Bo_29 := T29.blk Bo_28 (Ne.symm nxo); have Bp_29 := T29.blk Bp_28 (Ne.symm nxp); have Bs_29 := T29.blk Bs_28 (Ne.symm nxs); have Ov_29 := Ov_28.turned T29 (Or.inl ltx); have Om_29 := Om_28.turned T29 (Or.inl ltx); have Hw29 := T29.below Hw28 gx; clear T29 Bf_28 Bo_28 Bp_28 Bs_28 Ov_28 Om_28 Bx_28 Hw28; have cf_12_29 : W29.cell? ⟨bf, 12, none⟩ = some (sv) := Bf_29.cell 12))
          go_wp2_with (first
            | (refine wl_load 65 5 _ Try.underlying65 rfl size65g8 _ rfl rfl _ rfl _ _ Bs_29 rfl ?_)
            | (refine wlg_slice 26 65 1 _ _ (stop1_run v r g b a) _ rfl rfl rfl ?_; intro W30 bn Bn_30 l30 k30; have gn : w.heap.size ≤ bn := Nat.le_trans Hw29.size l30; have nxn : bx ≠ bn := Nat.ne_of_lt (Nat.lt_of_lt_of_le Bx_29.lt l30); have nfn : bf ≠ bn := Nat.ne_of_lt (Nat.lt_of_lt_of_le Bf_29.lt l30); have non : bo ≠ bn := Nat.ne_of_lt (Nat.lt_of_lt_of_le Bo_29.lt l30); have npn : bp ≠ bn := Nat.ne_of_lt (Nat.lt_of_lt_of_le Bp_29.lt l30); have nsn : bs ≠ bn := Nat.ne_of_lt (Nat.lt_of_lt_of_le Bs_29.lt l30); have lon := Nat.le_trans Om_29.le l30; have Bx_30 := Bx_29.keep k30; have Bf_30 := Bf_29.keep k30; have Bo_30 := Bo_29.keep k30; have Bp_30 := Bp_29.keep k30; have Bs_30 := Bs_29.keep k30; have Ov_30 := Ov_29.keep k30; have Om_30 := Om_29.keep k30; have Hw30 := bq_trans Hw29 k30; clear l30 k30 Bx_29 Bf_29 Bo_29 Bp_29 Bs_29 Ov_29 Om_29 cf_12_29 Hw29)
            | (refine wl_appC 26 65 5 _ Try.underlying26 sp_info rfl (by decide) _ _ rfl rfl WB.heap.size _ rfl (L.map iL) Ov_30.1.1 bn 1 _ _ rfl Bn_30 rfl (by kernel_rfl) HLE.out (Nat.le_trans HWB.out Om_30.le) ?_; intro vn W31 hO k31; have Bx_31 := Bx_30.under k31 ltx; have Bf_31 := Bf_30.under k31 ltf; have Bo_31 := Bo_30.under k31 lto; have Bp_31 := Bp_30.under k31 ltp; have Hw31 := Hw30.trans (k31.mono le); intro hgr hat; have Ov := (OwnP.snoc (x := [v, r, g, b, a]) Ov_30.1 rfl H5.out hO).m; have hone := hO.one; have Om2 : SzM W31 WB.heap.size WB.heap.size := ⟨Nat.le_trans (Nat.le_trans HWB.out Om_30.le) hgr.size⟩; clear hgr hat hO Ov_30 Om_30 Bn_30; clear k31 Bx_30 Bf_30 Bo_30 Bp_30 Hw30)
            | (refine wl_set 26 _ _ rfl rfl bf 12 rfl vn rfl hone size26g8 _ _ Bf_31 (by decide : 12 < 14) ?_; intro W32 Bf_32 T32; have Bx_32 := T32.blk Bx_31 nxf; have Bo_32 := T32.blk Bo_31 nof; have Bp_32 := T32.blk Bp_31 npf; have Ov_32 := Ov.turned T32 (Or.inl ltf); have Om_32 := Om2.turned T32 (Or.inl ltf); have Hw32 := T32.below Hw31 gf; clear T32 Bx_31 Bo_31 Bp_31 Ov Om2 Bf_31 Hw31))
          go_roundw
          case rel => exact ⟨k + 1, vn, by omega, by go_num, by rw [HZ.out]; exact Bx_32, Bf_32, Bo_32, Bp_32, by rw [HZ.out]; exact Ov_32.1, by rw [HZ.out]; simp [HLN.out], Hw32, Om_32.le⟩
          case measure => simp [intOf]; omega
        subst e1
        cases k with
        | zero =>
          have hL0 : L = [] := List.eq_nil_of_length_eq_zero HLN.out
          have hd : decide (v < lastR 0 L) = false := by rw [hL0]; have := HVB.out; exact decide_eq_false (show ¬ v < 0 by omega)
          rw [hd] at HST4
          clear hL0 hd HVB
          obtain ⟨z, hz⟩ : ∃ z : RS, z = (⟨us, ua, 0⟩ : RS) := ⟨_, rfl⟩
          have HZ0 : Hid (stopsT (⟨qs, qa, 0⟩ : RS) (0 + 1) = (L ++ [v :: z.cv], z.cvS)) := Lib.hid (by rw [HST4.out, RS.dem_no, hz])
          have hzs : z.s.size ≤ 1000000 := by rw [hz]; exact hy1
          obtain ⟨r, g, b, a, hcv⟩ := list4 _ (cv_len z)
          have HC0 := Lib.hid (fun W => rcolor8_any z W hzs)
          rw [hcv] at HC0 HZ0
          generalize z.cvS = z1 at *
          obtain ⟨t0, t1, t2⟩ := z1
          rw [hz] at HC0
          have HC : Hid (∀ W, Calls Try.prog 47 #[.agg #[.string us, .int .i64 ua, .int .i64 0]] W fun e w' => e = .returned (.tuple #[.agg #[.int .i64 r, .int .i64 g, .int .i64 b, .int .i64 a], .agg #[.string t0, .int .i64 t1, .int .i64 t2]]) ∧ Below W.heap.size W w') := HC0
          have HZ := HZ0
          have H5 : Hid (∀ x ∈ [v, r, g, b, a], I64 x) := Lib.hid (fun x hx => (HFV.out [v, r, g, b, a] (by rw [HZ.out]; simp)).2 x hx)
          have HLE : Hid ((L.map iL).length ≤ 1000000) := Lib.hid (by rw [List.length_map, HLN.out]; have := HN16.out; omega)
          clear HC0 HZ0 hcv hzs hz hy1 HST4 HFV
          go_upto_region 25 with (go_big_may; first
            | (refine wl_alloc 65 _ zeroSP8 rfl rfl ?_; intro W21 bs Bs_21 l21 k21; have gs : w.heap.size ≤ bs := Nat.le_trans HBw.size l21; have nxs : bx ≠ bs := Nat.ne_of_lt (Nat.lt_of_lt_of_le BX1.lt l21); have nfs : bf ≠ bs := Nat.ne_of_lt (Nat.lt_of_lt_of_le BF.lt l21); have nos : bo ≠ bs := Nat.ne_of_lt (Nat.lt_of_lt_of_le BO.lt l21); have nps : bp ≠ bs := Nat.ne_of_lt (Nat.lt_of_lt_of_le BP.lt l21); have los := Nat.le_trans SM.le l21; have Bx_21 := BX1.keep k21; have Bf_21 := BF.keep k21; have Bo_21 := BO.keep k21; have Bp_21 := BP.keep k21; have Ov_21 := OM.keep k21; have Om_21 := SM.keep k21; have Hw21 := bq_trans HBw k21; clear l21 k21 BX1 BF BO BP OM SM HBw)
            | (refine wl_store 65 5 size65g8 _ _ rfl rfl _ rfl #[.int .i64 0, .int .i64 0, .int .i64 0, .int .i64 0, .int .i64 0] rfl _ _ Bs_21 rfl rfl (by kernel_rfl) ?_; intro W22 Bs_22 T22; have Bx_22 := T22.blk Bx_21 nxs; have Bf_22 := T22.blk Bf_21 nfs; have Bo_22 := T22.blk Bo_21 nos; have Bp_22 := T22.blk Bp_21 nps; have Ov_22 := Ov_21.turned T22 (Or.inr los); have Om_22 := Om_21.turned T22 (Or.inr los); have Hw22 := T22.below Hw21 gs; clear T22 Bx_21 Bf_21 Bo_21 Bp_21 Ov_21 Om_21 Bs_21 Hw21)
            | (refine wl_load 53 3 _ Try.underlying53 rfl size62 _ rfl rfl _ rfl _ _ Bx_22 rfl ?_)
            | (go_at_call 45; (with_reducible refine (HLI.out _).mono ?_); rintro e W23 ⟨rfl, k23⟩; have Bx_23 := Bx_22.keep k23; have Bf_23 := Bf_22.keep k23; have Bo_23 := Bo_22.keep k23; have Bp_23 := Bp_22.keep k23; have Bs_23 := Bs_22.keep k23; have Ov_23 := Ov_22.keep k23; have Om_23 := Om_22.keep k23; have Hw23 := bq_trans Hw22 k23; clear k23 Bx_22 Bf_22 Bo_22 Bp_22 Bs_22 Ov_22 Om_22 Hw22)
            | (refine wl_set 3 _ _ rfl rfl bs 0 rfl (.int .i64 v) rfl rfl size3s _ _ Bs_23 (by decide : 0 < 5) ?_; intro W24 Bs_24 T24; have Bx_24 := T24.blk Bx_23 nxs; have Bf_24 := T24.blk Bf_23 nfs; have Bo_24 := T24.blk Bo_23 nos; have Bp_24 := T24.blk Bp_23 nps; have Ov_24 := Ov_23.turned T24 (Or.inr los); have Om_24 := Om_23.turned T24 (Or.inr los); have Hw24 := T24.below Hw23 gs; clear T24 Bx_23 Bf_23 Bo_23 Bp_23 Ov_23 Om_23 Bs_23 Hw23)
            | (refine wl_store 53 3 size62 _ _ rfl rfl _ rfl #[.string us, .int .i64 ua, .int .i64 0] rfl _ _ Bx_24 rfl rfl (by kernel_rfl) ?_; intro W25 Bx_25 T25; have Bf_25 := T25.blk Bf_24 (Ne.symm nxf); have Bo_25 := T25.blk Bo_24 (Ne.symm nxo); have Bp_25 := T25.blk Bp_24 (Ne.symm nxp); have Bs_25 := T25.blk Bs_24 (Ne.symm nxs); have Ov_25 := Ov_24.turned T25 (Or.inl ltx); have Om_25 := Om_24.turned T25 (Or.inl ltx); have Hw25 := T25.below Hw24 gx; clear T25 Bf_24 Bo_24 Bp_24 Bs_24 Ov_24 Om_24 Bx_24 Hw24; have cx_2_25 : W25.cell? ⟨bx, 2, none⟩ = some (.int .i64 0) := Bx_25.cell 2))
          clear cx_2_25
          refine Det.wp_region_det (S := fun w' => Below W25.heap.size W25 w') (by kernel_rfl) (by kernel_rfl) (bq_drew (bq_refl _)) ?_
          refine Det.det_take (v := ?_) (by rfl) ?_ ?_
          rotate_left
          · (intro w hSw; go_simp; try with_reducible rfl)
          try simp only [Act.put, List.setIfInBounds_toArray, List.set_cons_zero, List.set_cons_succ]
          refine Det.det_take (v := ?_) (by rfl) ?_ ?_
          rotate_left
          · (intro w hSw; have cc := (Bx_25.keep hSw).cell 2; go_simp; try with_reducible rfl)
          try simp only [Act.put, List.setIfInBounds_toArray, List.set_cons_zero, List.set_cons_succ]
          refine Det.det_take (v := ?_) (by rfl) ?_ ?_
          rotate_left
          · (intro w hSw; go_simp; try with_reducible rfl)
          try simp only [Act.put, List.setIfInBounds_toArray, List.set_cons_zero, List.set_cons_succ]
          refine Det.det_take (v := ?_) (by rfl) ?_ ?_
          rotate_left
          · (intro w hSw; go_simp; try with_reducible rfl)
          try simp only [Act.put, List.setIfInBounds_toArray, List.set_cons_zero, List.set_cons_succ]
          refine Det.det_take (v := ?_) (by rfl) ?_ ?_
          rotate_left
          · (intro w hSw; go_simp; try with_reducible rfl)
          try simp only [Act.put, List.setIfInBounds_toArray, List.set_cons_zero, List.set_cons_succ]
          refine Det.det_take (v := ?_) (by rfl) ?_ ?_
          rotate_left
          · (intro w hSw; go_simp; try with_reducible rfl)
          try simp only [Act.put, List.setIfInBounds_toArray, List.set_cons_zero, List.set_cons_succ]
          refine Det.det_take (v := ?_) (by rfl) ?_ ?_
          rotate_left
          · (intro w hSw; go_simp; try with_reducible rfl)
          try simp only [Act.put, List.setIfInBounds_toArray, List.set_cons_zero, List.set_cons_succ]
          refine Det.det_take (v := ?_) (by rfl) ?_ ?_
          rotate_left
          · (intro w hSw; go_simp; try with_reducible rfl)
          try simp only [Act.put, List.setIfInBounds_toArray, List.set_cons_zero, List.set_cons_succ]
          refine Det.det_skip (by rfl) ?_
          try simp only [Act.put, List.setIfInBounds_toArray, List.set_cons_zero, List.set_cons_succ]
          refine Det.det_skip (by rfl) ?_
          try simp only [Act.put, List.setIfInBounds_toArray, List.set_cons_zero, List.set_cons_succ]
          refine Det.det_skip (by rfl) ?_
          try simp only [Act.put, List.setIfInBounds_toArray, List.set_cons_zero, List.set_cons_succ]
          refine Det.det_skip (by rfl) ?_
          try simp only [Act.put, List.setIfInBounds_toArray, List.set_cons_zero, List.set_cons_succ]
          refine Det.det_skip (by rfl) ?_
          try simp only [Act.put, List.setIfInBounds_toArray, List.set_cons_zero, List.set_cons_succ]
          refine Det.det_skip (by rfl) ?_
          try simp only [Act.put, List.setIfInBounds_toArray, List.set_cons_zero, List.set_cons_succ]
          refine Det.det_skip (by rfl) ?_
          try simp only [Act.put, List.setIfInBounds_toArray, List.set_cons_zero, List.set_cons_succ]
          refine Det.det_skip (by rfl) ?_
          try simp only [Act.put, List.setIfInBounds_toArray, List.set_cons_zero, List.set_cons_succ]
          refine Det.det_skip (by rfl) ?_
          try simp only [Act.put, List.setIfInBounds_toArray, List.set_cons_zero, List.set_cons_succ]
          refine Det.det_skip (by rfl) ?_
          try simp only [Act.put, List.setIfInBounds_toArray, List.set_cons_zero, List.set_cons_succ]
          refine Det.det_take (v := ?_) (by rfl) ?_ ?_
          rotate_left
          · (intro w hSw; go_simp; try with_reducible rfl)
          try simp only [Act.put, List.setIfInBounds_toArray, List.set_cons_zero, List.set_cons_succ]
          refine Det.det_nil (fun W26 k26 => ?_)
          have Bx_26 := Bx_25.keep k26
          have Bf_26 := Bf_25.keep k26
          have Bo_26 := Bo_25.keep k26
          have Bp_26 := Bp_25.keep k26
          have Bs_26 := Bs_25.keep k26
          have Ov_26 := Ov_25.keep k26
          have Om_26 := Om_25.keep k26
          have Hw26 := bq_trans Hw25 k26
          clear k26 Bx_25 Bf_25 Bo_25 Bp_25 Bs_25 Ov_25 Om_25 Hw25
          have BXz : Blk W26 bx #[.string us, .int .i64 ua, .int .i64 0] 53 := Bx_26
          clear Bx_26
          go_upto_region 28 with (go_big_may; first
            | (refine wl_load 53 3 _ Try.underlying53 rfl size62 _ rfl rfl _ rfl _ _ BXz rfl ?_)
            | (go_at_call 47; (with_reducible refine (HC.out _).mono ?_); rintro e W27 ⟨rfl, k27⟩; have Bx_27 := BXz.keep k27; have Bf_27 := Bf_26.keep k27; have Bo_27 := Bo_26.keep k27; have Bp_27 := Bp_26.keep k27; have Bs_27 := Bs_26.keep k27; have Ov_27 := Ov_26.keep k27; have Om_27 := Om_26.keep k27; have Hw27 := bq_trans Hw26 k27; clear k27 BXz Bf_26 Bo_26 Bp_26 Bs_26 Ov_26 Om_26 Hw26)
            | (refine wl_putAt 23 _ _ rfl rfl bs 1 rfl #[.int .i64 r, .int .i64 g, .int .i64 b, .int .i64 a] rfl size23g8 (by kernel_rfl) _ _ Bs_27 (by decide : 1 + 4 ≤ 5) #[.int .i64 v, .int .i64 r, .int .i64 g, .int .i64 b, .int .i64 a] (by kernel_rfl) ?_; intro W28 Bs_28 T28; have Bx_28 := T28.blk Bx_27 nxs; have Bf_28 := T28.blk Bf_27 nfs; have Bo_28 := T28.blk Bo_27 nos; have Bp_28 := T28.blk Bp_27 nps; have Ov_28 := Ov_27.turned T28 (Or.inr los); have Om_28 := Om_27.turned T28 (Or.inr los); have Hw28 := T28.below Hw27 gs; clear T28 Bx_27 Bf_27 Bo_27 Bp_27 Ov_27 Om_27 Bs_27 Hw27)
            | (refine wl_store 53 3 size62 _ _ rfl rfl _ rfl #[.string t0, .int .i64 t1, .int .i64 t2] rfl _ _ Bx_28 rfl rfl (by kernel_rfl) ?_; intro W29 Bx_29 T29; have Bf_29 := T29.blk Bf_28 (Ne.symm nxf); have Bo_29 := T29.blk Bo_28 (Ne.symm nxo); have Bp_29 := T29.blk Bp_28 (Ne.symm nxp); have Bs_29 := T29.blk Bs_28 (Ne.symm nxs); have Ov_29 := Ov_28.turned T29 (Or.inl ltx); have Om_29 := Om_28.turned T29 (Or.inl ltx); have Hw29 := T29.below Hw28 gx; clear T29 Bf_28 Bo_28 Bp_28 Bs_28 Ov_28 Om_28 Bx_28 Hw28; have cf_12_29 : W29.cell? ⟨bf, 12, none⟩ = some (sv) := Bf_29.cell 12))
          go_wp2_with (first
            | (refine wl_load 65 5 _ Try.underlying65 rfl size65g8 _ rfl rfl _ rfl _ _ Bs_29 rfl ?_)
            | (refine wlg_slice 26 65 1 _ _ (stop1_run v r g b a) _ rfl rfl rfl ?_; intro W30 bn Bn_30 l30 k30; have gn : w.heap.size ≤ bn := Nat.le_trans Hw29.size l30; have nxn : bx ≠ bn := Nat.ne_of_lt (Nat.lt_of_lt_of_le Bx_29.lt l30); have nfn : bf ≠ bn := Nat.ne_of_lt (Nat.lt_of_lt_of_le Bf_29.lt l30); have non : bo ≠ bn := Nat.ne_of_lt (Nat.lt_of_lt_of_le Bo_29.lt l30); have npn : bp ≠ bn := Nat.ne_of_lt (Nat.lt_of_lt_of_le Bp_29.lt l30); have nsn : bs ≠ bn := Nat.ne_of_lt (Nat.lt_of_lt_of_le Bs_29.lt l30); have lon := Nat.le_trans Om_29.le l30; have Bx_30 := Bx_29.keep k30; have Bf_30 := Bf_29.keep k30; have Bo_30 := Bo_29.keep k30; have Bp_30 := Bp_29.keep k30; have Bs_30 := Bs_29.keep k30; have Ov_30 := Ov_29.keep k30; have Om_30 := Om_29.keep k30; have Hw30 := bq_trans Hw29 k30; clear l30 k30 Bx_29 Bf_29 Bo_29 Bp_29 Bs_29 Ov_29 Om_29 cf_12_29 Hw29)
            | (refine wl_appC 26 65 5 _ Try.underlying26 sp_info rfl (by decide) _ _ rfl rfl WB.heap.size _ rfl (L.map iL) Ov_30.1.1 bn 1 _ _ rfl Bn_30 rfl (by kernel_rfl) HLE.out (Nat.le_trans HWB.out Om_30.le) ?_; intro vn W31 hO k31; have Bx_31 := Bx_30.under k31 ltx; have Bf_31 := Bf_30.under k31 ltf; have Bo_31 := Bo_30.under k31 lto; have Bp_31 := Bp_30.under k31 ltp; have Hw31 := Hw30.trans (k31.mono le); intro hgr hat; have Ov := (OwnP.snoc (x := [v, r, g, b, a]) Ov_30.1 rfl H5.out hO).m; have hone := hO.one; have Om2 : SzM W31 WB.heap.size WB.heap.size := ⟨Nat.le_trans (Nat.le_trans HWB.out Om_30.le) hgr.size⟩; clear hgr hat hO Ov_30 Om_30 Bn_30; clear k31 Bx_30 Bf_30 Bo_30 Bp_30 Hw30)
            | (refine wl_set 26 _ _ rfl rfl bf 12 rfl vn rfl hone size26g8 _ _ Bf_31 (by decide : 12 < 14) ?_; intro W32 Bf_32 T32; have Bx_32 := T32.blk Bx_31 nxf; have Bo_32 := T32.blk Bo_31 nof; have Bp_32 := T32.blk Bp_31 npf; have Ov_32 := Ov.turned T32 (Or.inl ltf); have Om_32 := Om2.turned T32 (Or.inl ltf); have Hw32 := T32.below Hw31 gf; clear T32 Bx_31 Bo_31 Bp_31 Ov Om2 Bf_31 Hw31))
          go_roundw
          case rel => exact ⟨0 + 1, vn, by omega, by go_num, by rw [HZ.out]; exact Bx_32, Bf_32, Bo_32, Bp_32, by rw [HZ.out]; exact Ov_32.1, by rw [HZ.out]; simp [HLN.out], Hw32, Om_32.le⟩
          case measure => simp [intOf]; omega
        | succ p =>
          obtain ⟨sg, sc, hsv, hcl⟩ := HP.out.last p HLN.out
          subst hsv
          have hwp : IntKind.i64.wrap (((p + 1 : Nat) : Int) - 1) = (p : Int) := by rw [i64_wrap _ (by omega) (by omega)]; omega
          have hwp2 : IntKind.i64.wrap (p : Int) = (p : Int) := i64_wrap _ (by omega) (by omega)
          have hp5 : (p : Int) < (p : Int) + 1 := by omega
          have hp1 : (0 : Int) ≤ (p : Int) := by omega
          have hp2 : (p : Int) < ((p + 1 : Nat) : Int) := by omega
          have hp4 : (0 : Int) < ((p + 1 : Nat) : Int) := by omega
          clear hcl HP
          cases w3 : decide (v < lastR 0 L)
          · rw [w3] at HST4
            obtain ⟨z, hz⟩ : ∃ z : RS, z = (⟨us, ua, 0⟩ : RS) := ⟨_, rfl⟩
            have HZ0 : Hid (stopsT (⟨qs, qa, 0⟩ : RS) (p + 1 + 1) = (L ++ [v :: z.cv], z.cvS)) := Lib.hid (by rw [HST4.out, RS.dem_no, hz])
            have hzs : z.s.size ≤ 1000000 := by rw [hz]; exact hy1
            obtain ⟨r, g, b, a, hcv⟩ := list4 _ (cv_len z)
            have HC0 := Lib.hid (fun W => rcolor8_any z W hzs)
            rw [hcv] at HC0 HZ0
            generalize z.cvS = z1 at *
            obtain ⟨t0, t1, t2⟩ := z1
            rw [hz] at HC0
            have HC : Hid (∀ W, Calls Try.prog 47 #[.agg #[.string us, .int .i64 ua, .int .i64 0]] W fun e w' => e = .returned (.tuple #[.agg #[.int .i64 r, .int .i64 g, .int .i64 b, .int .i64 a], .agg #[.string t0, .int .i64 t1, .int .i64 t2]]) ∧ Below W.heap.size W w') := HC0
            have HZ := HZ0
            have H5 : Hid (∀ x ∈ [v, r, g, b, a], I64 x) := Lib.hid (fun x hx => (HFV.out [v, r, g, b, a] (by rw [HZ.out]; simp)).2 x hx)
            have HLE : Hid ((L.map iL).length ≤ 1000000) := Lib.hid (by rw [List.length_map, HLN.out]; have := HN16.out; omega)
            clear HC0 HZ0 hcv hzs hz hy1 HST4 HFV
            go_upto_region 25 with (go_big_may; first
              | (refine wl_alloc 65 _ zeroSP8 rfl rfl ?_; intro W21 bs Bs_21 l21 k21; have gs : w.heap.size ≤ bs := Nat.le_trans HBw.size l21; have nxs : bx ≠ bs := Nat.ne_of_lt (Nat.lt_of_lt_of_le BX1.lt l21); have nfs : bf ≠ bs := Nat.ne_of_lt (Nat.lt_of_lt_of_le BF.lt l21); have nos : bo ≠ bs := Nat.ne_of_lt (Nat.lt_of_lt_of_le BO.lt l21); have nps : bp ≠ bs := Nat.ne_of_lt (Nat.lt_of_lt_of_le BP.lt l21); have los := Nat.le_trans SM.le l21; have Bx_21 := BX1.keep k21; have Bf_21 := BF.keep k21; have Bo_21 := BO.keep k21; have Bp_21 := BP.keep k21; have Ov_21 := OM.keep k21; have Om_21 := SM.keep k21; have Hw21 := bq_trans HBw k21; clear l21 k21 BX1 BF BO BP OM SM HBw)
              | (refine wl_store 65 5 size65g8 _ _ rfl rfl _ rfl #[.int .i64 0, .int .i64 0, .int .i64 0, .int .i64 0, .int .i64 0] rfl _ _ Bs_21 rfl rfl (by kernel_rfl) ?_; intro W22 Bs_22 T22; have Bx_22 := T22.blk Bx_21 nxs; have Bf_22 := T22.blk Bf_21 nfs; have Bo_22 := T22.blk Bo_21 nos; have Bp_22 := T22.blk Bp_21 nps; have Ov_22 := Ov_21.turned T22 (Or.inr los); have Om_22 := Om_21.turned T22 (Or.inr los); have Hw22 := T22.below Hw21 gs; clear T22 Bx_21 Bf_21 Bo_21 Bp_21 Ov_21 Om_21 Bs_21 Hw21)
              | (refine wl_load 53 3 _ Try.underlying53 rfl size62 _ rfl rfl _ rfl _ _ Bx_22 rfl ?_)
              | (go_at_call 45; (with_reducible refine (HLI.out _).mono ?_); rintro e W23 ⟨rfl, k23⟩; have Bx_23 := Bx_22.keep k23; have Bf_23 := Bf_22.keep k23; have Bo_23 := Bo_22.keep k23; have Bp_23 := Bp_22.keep k23; have Bs_23 := Bs_22.keep k23; have Ov_23 := Ov_22.keep k23; have Om_23 := Om_22.keep k23; have Hw23 := bq_trans Hw22 k23; clear k23 Bx_22 Bf_22 Bo_22 Bp_22 Bs_22 Ov_22 Om_22 Hw22)
              | (refine wl_set 3 _ _ rfl rfl bs 0 rfl (.int .i64 v) rfl rfl size3s _ _ Bs_23 (by decide : 0 < 5) ?_; intro W24 Bs_24 T24; have Bx_24 := T24.blk Bx_23 nxs; have Bf_24 := T24.blk Bf_23 nfs; have Bo_24 := T24.blk Bo_23 nos; have Bp_24 := T24.blk Bp_23 nps; have Ov_24 := Ov_23.turned T24 (Or.inr los); have Om_24 := Om_23.turned T24 (Or.inr los); have Hw24 := T24.below Hw23 gs; clear T24 Bx_23 Bf_23 Bo_23 Bp_23 Ov_23 Om_23 Bs_23 Hw23)
              | (refine wl_store 53 3 size62 _ _ rfl rfl _ rfl #[.string us, .int .i64 ua, .int .i64 0] rfl _ _ Bx_24 rfl rfl (by kernel_rfl) ?_; intro W25 Bx_25 T25; have Bf_25 := T25.blk Bf_24 (Ne.symm nxf); have Bo_25 := T25.blk Bo_24 (Ne.symm nxo); have Bp_25 := T25.blk Bp_24 (Ne.symm nxp); have Bs_25 := T25.blk Bs_24 (Ne.symm nxs); have Ov_25 := Ov_24.turned T25 (Or.inl ltx); have Om_25 := Om_24.turned T25 (Or.inl ltx); have Hw25 := T25.below Hw24 gx; clear T25 Bf_24 Bo_24 Bp_24 Bs_24 Ov_24 Om_24 Bx_24 Hw24; have cx_2_25 : W25.cell? ⟨bx, 2, none⟩ = some (.int .i64 0) := Bx_25.cell 2))
            have cl : W25.cell? ⟨sg, p * 5, none⟩ = some (.int .i64 (lastR 0 L)) := by
              obtain ⟨g', c', h1, h2⟩ := Ov_25.1.last p HLN.out
              simp only [Value.slice.injEq, Option.some.injEq, Addr.mk.injEq] at h1
              obtain ⟨⟨rfl, _⟩, _⟩ := h1
              rw [Nat.zero_add] at h2
              exact h2
            clear cx_2_25
            refine Det.wp_region_det (S := fun w' => Below W25.heap.size W25 w') (by kernel_rfl) (by kernel_rfl) (bq_drew (bq_refl _)) ?_
            refine Det.det_take (v := ?_) (by rfl) ?_ ?_
            rotate_left
            · (intro w hSw; go_simp; try with_reducible rfl)
            try simp only [Act.put, List.setIfInBounds_toArray, List.set_cons_zero, List.set_cons_succ]
            refine Det.det_take (v := ?_) (by rfl) ?_ ?_
            rotate_left
            · (intro w hSw; have cc := (Bx_25.keep hSw).cell 2; go_simp; try with_reducible rfl)
            try simp only [Act.put, List.setIfInBounds_toArray, List.set_cons_zero, List.set_cons_succ]
            refine Det.det_take (v := ?_) (by rfl) ?_ ?_
            rotate_left
            · (intro w hSw; go_simp; try with_reducible rfl)
            try simp only [Act.put, List.setIfInBounds_toArray, List.set_cons_zero, List.set_cons_succ]
            refine Det.det_take (v := ?_) (by rfl) ?_ ?_
            rotate_left
            · (intro w hSw; go_simp; try with_reducible rfl)
            try simp only [Act.put, List.setIfInBounds_toArray, List.set_cons_zero, List.set_cons_succ]
            refine Det.det_take (v := ?_) (by rfl) ?_ ?_
            rotate_left
            · (intro w hSw; go_simp; try with_reducible rfl)
            try simp only [Act.put, List.setIfInBounds_toArray, List.set_cons_zero, List.set_cons_succ]
            refine Det.det_take (v := ?_) (by rfl) ?_ ?_
            rotate_left
            · (intro w hSw; go_simp; try with_reducible rfl)
            try simp only [Act.put, List.setIfInBounds_toArray, List.set_cons_zero, List.set_cons_succ]
            refine Det.det_take (v := ?_) (by rfl) ?_ ?_
            rotate_left
            · (intro w hSw; go_simp; try with_reducible rfl)
            try simp only [Act.put, List.setIfInBounds_toArray, List.set_cons_zero, List.set_cons_succ]
            refine Det.det_take (v := ?_) (by rfl) ?_ ?_
            rotate_left
            · (intro w hSw; go_simp; try with_reducible rfl)
            try simp only [Act.put, List.setIfInBounds_toArray, List.set_cons_zero, List.set_cons_succ]
            refine Det.det_take (v := ?_) (by rfl) ?_ ?_
            rotate_left
            · (intro w hSw; go_simp; try with_reducible rfl)
            try simp only [Act.put, List.setIfInBounds_toArray, List.set_cons_zero, List.set_cons_succ]
            refine Det.det_take (v := ?_) (by rfl) ?_ ?_
            rotate_left
            · (intro w hSw; have cc := (Bs_25.keep hSw).cell 0; go_simp; try with_reducible rfl)
            try simp only [Act.put, List.setIfInBounds_toArray, List.set_cons_zero, List.set_cons_succ]
            refine Det.det_take (v := ?_) (by rfl) ?_ ?_
            rotate_left
            · (intro w hSw; go_simp; try with_reducible rfl)
            try simp only [Act.put, List.setIfInBounds_toArray, List.set_cons_zero, List.set_cons_succ]
            refine Det.det_take (v := ?_) (by rfl) ?_ ?_
            rotate_left
            · (intro w hSw; have cc := (Bf_25.keep hSw).cell 12; go_simp; try with_reducible rfl)
            try simp only [Act.put, List.setIfInBounds_toArray, List.set_cons_zero, List.set_cons_succ]
            refine Det.det_take (v := ?_) (by rfl) ?_ ?_
            rotate_left
            · (intro w hSw; go_simp; try with_reducible rfl)
            try simp only [Act.put, List.setIfInBounds_toArray, List.set_cons_zero, List.set_cons_succ]
            refine Det.det_take (v := ?_) (by rfl) ?_ ?_
            rotate_left
            · (intro w hSw; go_simp; try with_reducible rfl)
            try simp only [Act.put, List.setIfInBounds_toArray, List.set_cons_zero, List.set_cons_succ]
            refine Det.det_take (v := ?_) (by rfl) ?_ ?_
            rotate_left
            · (intro w hSw; go_simp; try with_reducible rfl)
            try simp only [Act.put, List.setIfInBounds_toArray, List.set_cons_zero, List.set_cons_succ]
            refine Det.det_take (v := ?_) (by rfl) ?_ ?_
            rotate_left
            · (intro w hSw; go_simp; try with_reducible rfl)
            try simp only [Act.put, List.setIfInBounds_toArray, List.set_cons_zero, List.set_cons_succ]
            refine Det.det_take (v := ?_) (by rfl) ?_ ?_
            rotate_left
            · (intro w hSw; have cc : w.cell? ⟨sg, p * 5, none⟩ = some (.int .i64 (lastR 0 L)) := (hSw.cell (p := ⟨sg, p * 5, none⟩) (block_lt_of_cell cl)).trans cl; go_simp; try with_reducible rfl)
            try simp only [Act.put, List.setIfInBounds_toArray, List.set_cons_zero, List.set_cons_succ]
            refine Det.det_take (v := ?_) (by rfl) ?_ ?_
            rotate_left
            · (intro w hSw; go_simp; try with_reducible rfl)
            try simp only [Act.put, List.setIfInBounds_toArray, List.set_cons_zero, List.set_cons_succ]
            refine Det.det_take (v := ?_) (by rfl) ?_ ?_
            rotate_left
            · (intro w hSw; go_simp; try with_reducible rfl)
            try simp only [Act.put, List.setIfInBounds_toArray, List.set_cons_zero, List.set_cons_succ]
            refine Det.det_nil (fun W26 k26 => ?_)
            have Bx_26 := Bx_25.keep k26
            have Bf_26 := Bf_25.keep k26
            have Bo_26 := Bo_25.keep k26
            have Bp_26 := Bp_25.keep k26
            have Bs_26 := Bs_25.keep k26
            have Ov_26 := Ov_25.keep k26
            have Om_26 := Om_25.keep k26
            have Hw26 := bq_trans Hw25 k26
            clear k26 Bx_25 Bf_25 Bo_25 Bp_25 Bs_25 Ov_25 Om_25 Hw25
            clear cl
            have BXz : Blk W26 bx #[.string us, .int .i64 ua, .int .i64 0] 53 := Bx_26
            clear Bx_26
            go_upto_region 28 with (go_big_may; first
              | (refine wl_load 53 3 _ Try.underlying53 rfl size62 _ rfl rfl _ rfl _ _ BXz rfl ?_)
              | (go_at_call 47; (with_reducible refine (HC.out _).mono ?_); rintro e W27 ⟨rfl, k27⟩; have Bx_27 := BXz.keep k27; have Bf_27 := Bf_26.keep k27; have Bo_27 := Bo_26.keep k27; have Bp_27 := Bp_26.keep k27; have Bs_27 := Bs_26.keep k27; have Ov_27 := Ov_26.keep k27; have Om_27 := Om_26.keep k27; have Hw27 := bq_trans Hw26 k27; clear k27 BXz Bf_26 Bo_26 Bp_26 Bs_26 Ov_26 Om_26 Hw26)
              | (refine wl_putAt 23 _ _ rfl rfl bs 1 rfl #[.int .i64 r, .int .i64 g, .int .i64 b, .int .i64 a] rfl size23g8 (by kernel_rfl) _ _ Bs_27 (by decide : 1 + 4 ≤ 5) #[.int .i64 v, .int .i64 r, .int .i64 g, .int .i64 b, .int .i64 a] (by kernel_rfl) ?_; intro W28 Bs_28 T28; have Bx_28 := T28.blk Bx_27 nxs; have Bf_28 := T28.blk Bf_27 nfs; have Bo_28 := T28.blk Bo_27 nos; have Bp_28 := T28.blk Bp_27 nps; have Ov_28 := Ov_27.turned T28 (Or.inr los); have Om_28 := Om_27.turned T28 (Or.inr los); have Hw28 := T28.below Hw27 gs; clear T28 Bx_27 Bf_27 Bo_27 Bp_27 Ov_27 Om_27 Bs_27 Hw27)
              | (refine wl_store 53 3 size62 _ _ rfl rfl _ rfl #[.string t0, .int .i64 t1, .int .i64 t2] rfl _ _ Bx_28 rfl rfl (by kernel_rfl) ?_; intro W29 Bx_29 T29; have Bf_29 := T29.blk Bf_28 (Ne.symm nxf); have Bo_29 := T29.blk Bo_28 (Ne.symm nxo); have Bp_29 := T29.blk Bp_28 (Ne.symm nxp); have Bs_29 := T29.blk Bs_28 (Ne.symm nxs); have Ov_29 := Ov_28.turned T29 (Or.inl ltx); have Om_29 := Om_28.turned T29 (Or.inl ltx); have Hw29 := T29.below Hw28 gx; clear T29 Bf_28 Bo_28 Bp_28 Bs_28 Ov_28 Om_28 Bx_28 Hw28; have cf_12_29 : W29.cell? ⟨bf, 12, none⟩ = some ((.slice (some ⟨sg, 0, none⟩) (p + 1) sc)) := Bf_29.cell 12))
            go_wp2_with (first
              | (refine wl_load 65 5 _ Try.underlying65 rfl size65g8 _ rfl rfl _ rfl _ _ Bs_29 rfl ?_)
              | (refine wlg_slice 26 65 1 _ _ (stop1_run v r g b a) _ rfl rfl rfl ?_; intro W30 bn Bn_30 l30 k30; have gn : w.heap.size ≤ bn := Nat.le_trans Hw29.size l30; have nxn : bx ≠ bn := Nat.ne_of_lt (Nat.lt_of_lt_of_le Bx_29.lt l30); have nfn : bf ≠ bn := Nat.ne_of_lt (Nat.lt_of_lt_of_le Bf_29.lt l30); have non : bo ≠ bn := Nat.ne_of_lt (Nat.lt_of_lt_of_le Bo_29.lt l30); have npn : bp ≠ bn := Nat.ne_of_lt (Nat.lt_of_lt_of_le Bp_29.lt l30); have nsn : bs ≠ bn := Nat.ne_of_lt (Nat.lt_of_lt_of_le Bs_29.lt l30); have lon := Nat.le_trans Om_29.le l30; have Bx_30 := Bx_29.keep k30; have Bf_30 := Bf_29.keep k30; have Bo_30 := Bo_29.keep k30; have Bp_30 := Bp_29.keep k30; have Bs_30 := Bs_29.keep k30; have Ov_30 := Ov_29.keep k30; have Om_30 := Om_29.keep k30; have Hw30 := bq_trans Hw29 k30; clear l30 k30 Bx_29 Bf_29 Bo_29 Bp_29 Bs_29 Ov_29 Om_29 cf_12_29 Hw29)
              | (refine wl_appC 26 65 5 _ Try.underlying26 sp_info rfl (by decide) _ _ rfl rfl WB.heap.size _ rfl (L.map iL) Ov_30.1.1 bn 1 _ _ rfl Bn_30 rfl (by kernel_rfl) HLE.out (Nat.le_trans HWB.out Om_30.le) ?_; intro vn W31 hO k31; have Bx_31 := Bx_30.under k31 ltx; have Bf_31 := Bf_30.under k31 ltf; have Bo_31 := Bo_30.under k31 lto; have Bp_31 := Bp_30.under k31 ltp; have Hw31 := Hw30.trans (k31.mono le); intro hgr hat; have Ov := (OwnP.snoc (x := [v, r, g, b, a]) Ov_30.1 rfl H5.out hO).m; have hone := hO.one; have Om2 : SzM W31 WB.heap.size WB.heap.size := ⟨Nat.le_trans (Nat.le_trans HWB.out Om_30.le) hgr.size⟩; clear hgr hat hO Ov_30 Om_30 Bn_30; clear k31 Bx_30 Bf_30 Bo_30 Bp_30 Hw30)
              | (refine wl_set 26 _ _ rfl rfl bf 12 rfl vn rfl hone size26g8 _ _ Bf_31 (by decide : 12 < 14) ?_; intro W32 Bf_32 T32; have Bx_32 := T32.blk Bx_31 nxf; have Bo_32 := T32.blk Bo_31 nof; have Bp_32 := T32.blk Bp_31 npf; have Ov_32 := Ov.turned T32 (Or.inl ltf); have Om_32 := Om2.turned T32 (Or.inl ltf); have Hw32 := T32.below Hw31 gf; clear T32 Bx_31 Bo_31 Bp_31 Ov Om2 Bf_31 Hw31))
            go_roundw
            case rel => exact ⟨p + 1 + 1, vn, by omega, by go_num, by rw [HZ.out]; exact Bx_32, Bf_32, Bo_32, Bp_32, by rw [HZ.out]; exact Ov_32.1, by rw [HZ.out]; simp [HLN.out], Hw32, Om_32.le⟩
            case measure => simp [intOf]; omega
          · rw [w3] at HST4
            obtain ⟨z, hz⟩ : ∃ z : RS, z = (⟨us, ua, 3⟩ : RS) := ⟨_, rfl⟩
            have HZ0 : Hid (stopsT (⟨qs, qa, 0⟩ : RS) (p + 1 + 1) = (L ++ [v :: z.cv], z.cvS)) := Lib.hid (by rw [HST4.out, RS.dem_yes rfl, hz])
            have hzs : z.s.size ≤ 1000000 := by rw [hz]; exact hy1
            obtain ⟨r, g, b, a, hcv⟩ := list4 _ (cv_len z)
            have HC0 := Lib.hid (fun W => rcolor8_any z W hzs)
            rw [hcv] at HC0 HZ0
            generalize z.cvS = z1 at *
            obtain ⟨t0, t1, t2⟩ := z1
            rw [hz] at HC0
            have HC : Hid (∀ W, Calls Try.prog 47 #[.agg #[.string us, .int .i64 ua, .int .i64 3]] W fun e w' => e = .returned (.tuple #[.agg #[.int .i64 r, .int .i64 g, .int .i64 b, .int .i64 a], .agg #[.string t0, .int .i64 t1, .int .i64 t2]]) ∧ Below W.heap.size W w') := HC0
            have HZ := HZ0
            have H5 : Hid (∀ x ∈ [v, r, g, b, a], I64 x) := Lib.hid (fun x hx => (HFV.out [v, r, g, b, a] (by rw [HZ.out]; simp)).2 x hx)
            have HLE : Hid ((L.map iL).length ≤ 1000000) := Lib.hid (by rw [List.length_map, HLN.out]; have := HN16.out; omega)
            clear HC0 HZ0 hcv hzs hz hy1 HST4 HFV
            go_upto_region 25 with (go_big_may; first
              | (refine wl_alloc 65 _ zeroSP8 rfl rfl ?_; intro W21 bs Bs_21 l21 k21; have gs : w.heap.size ≤ bs := Nat.le_trans HBw.size l21; have nxs : bx ≠ bs := Nat.ne_of_lt (Nat.lt_of_lt_of_le BX1.lt l21); have nfs : bf ≠ bs := Nat.ne_of_lt (Nat.lt_of_lt_of_le BF.lt l21); have nos : bo ≠ bs := Nat.ne_of_lt (Nat.lt_of_lt_of_le BO.lt l21); have nps : bp ≠ bs := Nat.ne_of_lt (Nat.lt_of_lt_of_le BP.lt l21); have los := Nat.le_trans SM.le l21; have Bx_21 := BX1.keep k21; have Bf_21 := BF.keep k21; have Bo_21 := BO.keep k21; have Bp_21 := BP.keep k21; have Ov_21 := OM.keep k21; have Om_21 := SM.keep k21; have Hw21 := bq_trans HBw k21; clear l21 k21 BX1 BF BO BP OM SM HBw)
              | (refine wl_store 65 5 size65g8 _ _ rfl rfl _ rfl #[.int .i64 0, .int .i64 0, .int .i64 0, .int .i64 0, .int .i64 0] rfl _ _ Bs_21 rfl rfl (by kernel_rfl) ?_; intro W22 Bs_22 T22; have Bx_22 := T22.blk Bx_21 nxs; have Bf_22 := T22.blk Bf_21 nfs; have Bo_22 := T22.blk Bo_21 nos; have Bp_22 := T22.blk Bp_21 nps; have Ov_22 := Ov_21.turned T22 (Or.inr los); have Om_22 := Om_21.turned T22 (Or.inr los); have Hw22 := T22.below Hw21 gs; clear T22 Bx_21 Bf_21 Bo_21 Bp_21 Ov_21 Om_21 Bs_21 Hw21)
              | (refine wl_load 53 3 _ Try.underlying53 rfl size62 _ rfl rfl _ rfl _ _ Bx_22 rfl ?_)
              | (go_at_call 45; (with_reducible refine (HLI.out _).mono ?_); rintro e W23 ⟨rfl, k23⟩; have Bx_23 := Bx_22.keep k23; have Bf_23 := Bf_22.keep k23; have Bo_23 := Bo_22.keep k23; have Bp_23 := Bp_22.keep k23; have Bs_23 := Bs_22.keep k23; have Ov_23 := Ov_22.keep k23; have Om_23 := Om_22.keep k23; have Hw23 := bq_trans Hw22 k23; clear k23 Bx_22 Bf_22 Bo_22 Bp_22 Bs_22 Ov_22 Om_22 Hw22)
              | (refine wl_set 3 _ _ rfl rfl bs 0 rfl (.int .i64 v) rfl rfl size3s _ _ Bs_23 (by decide : 0 < 5) ?_; intro W24 Bs_24 T24; have Bx_24 := T24.blk Bx_23 nxs; have Bf_24 := T24.blk Bf_23 nfs; have Bo_24 := T24.blk Bo_23 nos; have Bp_24 := T24.blk Bp_23 nps; have Ov_24 := Ov_23.turned T24 (Or.inr los); have Om_24 := Om_23.turned T24 (Or.inr los); have Hw24 := T24.below Hw23 gs; clear T24 Bx_23 Bf_23 Bo_23 Bp_23 Ov_23 Om_23 Bs_23 Hw23)
              | (refine wl_store 53 3 size62 _ _ rfl rfl _ rfl #[.string us, .int .i64 ua, .int .i64 0] rfl _ _ Bx_24 rfl rfl (by kernel_rfl) ?_; intro W25 Bx_25 T25; have Bf_25 := T25.blk Bf_24 (Ne.symm nxf); have Bo_25 := T25.blk Bo_24 (Ne.symm nxo); have Bp_25 := T25.blk Bp_24 (Ne.symm nxp); have Bs_25 := T25.blk Bs_24 (Ne.symm nxs); have Ov_25 := Ov_24.turned T25 (Or.inl ltx); have Om_25 := Om_24.turned T25 (Or.inl ltx); have Hw25 := T25.below Hw24 gx; clear T25 Bf_24 Bo_24 Bp_24 Bs_24 Ov_24 Om_24 Bx_24 Hw24; have cx_2_25 : W25.cell? ⟨bx, 2, none⟩ = some (.int .i64 0) := Bx_25.cell 2))
            have cl : W25.cell? ⟨sg, p * 5, none⟩ = some (.int .i64 (lastR 0 L)) := by
              obtain ⟨g', c', h1, h2⟩ := Ov_25.1.last p HLN.out
              simp only [Value.slice.injEq, Option.some.injEq, Addr.mk.injEq] at h1
              obtain ⟨⟨rfl, _⟩, _⟩ := h1
              rw [Nat.zero_add] at h2
              exact h2
            clear cx_2_25
            refine Det.wp_region_det (S := fun w' => Below W25.heap.size W25 w') (by kernel_rfl) (by kernel_rfl) (bq_drew (bq_refl _)) ?_
            refine Det.det_take (v := ?_) (by rfl) ?_ ?_
            rotate_left
            · (intro w hSw; go_simp; try with_reducible rfl)
            try simp only [Act.put, List.setIfInBounds_toArray, List.set_cons_zero, List.set_cons_succ]
            refine Det.det_take (v := ?_) (by rfl) ?_ ?_
            rotate_left
            · (intro w hSw; have cc := (Bx_25.keep hSw).cell 2; go_simp; try with_reducible rfl)
            try simp only [Act.put, List.setIfInBounds_toArray, List.set_cons_zero, List.set_cons_succ]
            refine Det.det_take (v := ?_) (by rfl) ?_ ?_
            rotate_left
            · (intro w hSw; go_simp; try with_reducible rfl)
            try simp only [Act.put, List.setIfInBounds_toArray, List.set_cons_zero, List.set_cons_succ]
            refine Det.det_take (v := ?_) (by rfl) ?_ ?_
            rotate_left
            · (intro w hSw; go_simp; try with_reducible rfl)
            try simp only [Act.put, List.setIfInBounds_toArray, List.set_cons_zero, List.set_cons_succ]
            refine Det.det_take (v := ?_) (by rfl) ?_ ?_
            rotate_left
            · (intro w hSw; go_simp; try with_reducible rfl)
            try simp only [Act.put, List.setIfInBounds_toArray, List.set_cons_zero, List.set_cons_succ]
            refine Det.det_take (v := ?_) (by rfl) ?_ ?_
            rotate_left
            · (intro w hSw; go_simp; try with_reducible rfl)
            try simp only [Act.put, List.setIfInBounds_toArray, List.set_cons_zero, List.set_cons_succ]
            refine Det.det_take (v := ?_) (by rfl) ?_ ?_
            rotate_left
            · (intro w hSw; go_simp; try with_reducible rfl)
            try simp only [Act.put, List.setIfInBounds_toArray, List.set_cons_zero, List.set_cons_succ]
            refine Det.det_take (v := ?_) (by rfl) ?_ ?_
            rotate_left
            · (intro w hSw; go_simp; try with_reducible rfl)
            try simp only [Act.put, List.setIfInBounds_toArray, List.set_cons_zero, List.set_cons_succ]
            refine Det.det_take (v := ?_) (by rfl) ?_ ?_
            rotate_left
            · (intro w hSw; go_simp; try with_reducible rfl)
            try simp only [Act.put, List.setIfInBounds_toArray, List.set_cons_zero, List.set_cons_succ]
            refine Det.det_take (v := ?_) (by rfl) ?_ ?_
            rotate_left
            · (intro w hSw; have cc := (Bs_25.keep hSw).cell 0; go_simp; try with_reducible rfl)
            try simp only [Act.put, List.setIfInBounds_toArray, List.set_cons_zero, List.set_cons_succ]
            refine Det.det_take (v := ?_) (by rfl) ?_ ?_
            rotate_left
            · (intro w hSw; go_simp; try with_reducible rfl)
            try simp only [Act.put, List.setIfInBounds_toArray, List.set_cons_zero, List.set_cons_succ]
            refine Det.det_take (v := ?_) (by rfl) ?_ ?_
            rotate_left
            · (intro w hSw; have cc := (Bf_25.keep hSw).cell 12; go_simp; try with_reducible rfl)
            try simp only [Act.put, List.setIfInBounds_toArray, List.set_cons_zero, List.set_cons_succ]
            refine Det.det_take (v := ?_) (by rfl) ?_ ?_
            rotate_left
            · (intro w hSw; go_simp; try with_reducible rfl)
            try simp only [Act.put, List.setIfInBounds_toArray, List.set_cons_zero, List.set_cons_succ]
            refine Det.det_take (v := ?_) (by rfl) ?_ ?_
            rotate_left
            · (intro w hSw; go_simp; try with_reducible rfl)
            try simp only [Act.put, List.setIfInBounds_toArray, List.set_cons_zero, List.set_cons_succ]
            refine Det.det_take (v := ?_) (by rfl) ?_ ?_
            rotate_left
            · (intro w hSw; go_simp; try with_reducible rfl)
            try simp only [Act.put, List.setIfInBounds_toArray, List.set_cons_zero, List.set_cons_succ]
            refine Det.det_take (v := ?_) (by rfl) ?_ ?_
            rotate_left
            · (intro w hSw; go_simp; try with_reducible rfl)
            try simp only [Act.put, List.setIfInBounds_toArray, List.set_cons_zero, List.set_cons_succ]
            refine Det.det_take (v := ?_) (by rfl) ?_ ?_
            rotate_left
            · (intro w hSw; have cc : w.cell? ⟨sg, p * 5, none⟩ = some (.int .i64 (lastR 0 L)) := (hSw.cell (p := ⟨sg, p * 5, none⟩) (block_lt_of_cell cl)).trans cl; go_simp; try with_reducible rfl)
            try simp only [Act.put, List.setIfInBounds_toArray, List.set_cons_zero, List.set_cons_succ]
            refine Det.det_take (v := ?_) (by rfl) ?_ ?_
            rotate_left
            · (intro w hSw; go_simp; try with_reducible rfl)
            try simp only [Act.put, List.setIfInBounds_toArray, List.set_cons_zero, List.set_cons_succ]
            refine Det.det_take (v := ?_) (by rfl) ?_ ?_
            rotate_left
            · (intro w hSw; go_simp; try with_reducible rfl)
            try simp only [Act.put, List.setIfInBounds_toArray, List.set_cons_zero, List.set_cons_succ]
            refine Det.det_nil (fun W26 k26 => ?_)
            have Bx_26 := Bx_25.keep k26
            have Bf_26 := Bf_25.keep k26
            have Bo_26 := Bo_25.keep k26
            have Bp_26 := Bp_25.keep k26
            have Bs_26 := Bs_25.keep k26
            have Ov_26 := Ov_25.keep k26
            have Om_26 := Om_25.keep k26
            have Hw26 := bq_trans Hw25 k26
            clear k26 Bx_25 Bf_25 Bo_25 Bp_25 Bs_25 Ov_25 Om_25 Hw25
            clear cl
            go_upto_region 27 with (go_big_may; first
              | (refine wl_set 3 _ _ rfl rfl bx 2 rfl (.int .i64 3) rfl rfl size3s _ _ Bx_26 (by decide : 2 < 3) ?_; intro W27 Bx_27 T27; have Bf_27 := T27.blk Bf_26 (Ne.symm nxf); have Bo_27 := T27.blk Bo_26 (Ne.symm nxo); have Bp_27 := T27.blk Bp_26 (Ne.symm nxp); have Bs_27 := T27.blk Bs_26 (Ne.symm nxs); have Ov_27 := Ov_26.turned T27 (Or.inl ltx); have Om_27 := Om_26.turned T27 (Or.inl ltx); have Hw27 := T27.below Hw26 gx; clear T27 Bf_26 Bo_26 Bp_26 Bs_26 Ov_26 Om_26 Bx_26 Hw26))
            have BXz : Blk W27 bx #[.string us, .int .i64 ua, .int .i64 3] 53 := Bx_27
            clear Bx_27
            go_upto_region 28 with (go_big_may; first
              | (refine wl_load 53 3 _ Try.underlying53 rfl size62 _ rfl rfl _ rfl _ _ BXz rfl ?_)
              | (go_at_call 47; (with_reducible refine (HC.out _).mono ?_); rintro e W28 ⟨rfl, k28⟩; have Bx_28 := BXz.keep k28; have Bf_28 := Bf_27.keep k28; have Bo_28 := Bo_27.keep k28; have Bp_28 := Bp_27.keep k28; have Bs_28 := Bs_27.keep k28; have Ov_28 := Ov_27.keep k28; have Om_28 := Om_27.keep k28; have Hw28 := bq_trans Hw27 k28; clear k28 BXz Bf_27 Bo_27 Bp_27 Bs_27 Ov_27 Om_27 Hw27)
              | (refine wl_putAt 23 _ _ rfl rfl bs 1 rfl #[.int .i64 r, .int .i64 g, .int .i64 b, .int .i64 a] rfl size23g8 (by kernel_rfl) _ _ Bs_28 (by decide : 1 + 4 ≤ 5) #[.int .i64 v, .int .i64 r, .int .i64 g, .int .i64 b, .int .i64 a] (by kernel_rfl) ?_; intro W29 Bs_29 T29; have Bx_29 := T29.blk Bx_28 nxs; have Bf_29 := T29.blk Bf_28 nfs; have Bo_29 := T29.blk Bo_28 nos; have Bp_29 := T29.blk Bp_28 nps; have Ov_29 := Ov_28.turned T29 (Or.inr los); have Om_29 := Om_28.turned T29 (Or.inr los); have Hw29 := T29.below Hw28 gs; clear T29 Bx_28 Bf_28 Bo_28 Bp_28 Ov_28 Om_28 Bs_28 Hw28)
              | (refine wl_store 53 3 size62 _ _ rfl rfl _ rfl #[.string t0, .int .i64 t1, .int .i64 t2] rfl _ _ Bx_29 rfl rfl (by kernel_rfl) ?_; intro W30 Bx_30 T30; have Bf_30 := T30.blk Bf_29 (Ne.symm nxf); have Bo_30 := T30.blk Bo_29 (Ne.symm nxo); have Bp_30 := T30.blk Bp_29 (Ne.symm nxp); have Bs_30 := T30.blk Bs_29 (Ne.symm nxs); have Ov_30 := Ov_29.turned T30 (Or.inl ltx); have Om_30 := Om_29.turned T30 (Or.inl ltx); have Hw30 := T30.below Hw29 gx; clear T30 Bf_29 Bo_29 Bp_29 Bs_29 Ov_29 Om_29 Bx_29 Hw29; have cf_12_30 : W30.cell? ⟨bf, 12, none⟩ = some ((.slice (some ⟨sg, 0, none⟩) (p + 1) sc)) := Bf_30.cell 12))
            go_wp2_with (first
              | (refine wl_load 65 5 _ Try.underlying65 rfl size65g8 _ rfl rfl _ rfl _ _ Bs_30 rfl ?_)
              | (refine wlg_slice 26 65 1 _ _ (stop1_run v r g b a) _ rfl rfl rfl ?_; intro W31 bn Bn_31 l31 k31; have gn : w.heap.size ≤ bn := Nat.le_trans Hw30.size l31; have nxn : bx ≠ bn := Nat.ne_of_lt (Nat.lt_of_lt_of_le Bx_30.lt l31); have nfn : bf ≠ bn := Nat.ne_of_lt (Nat.lt_of_lt_of_le Bf_30.lt l31); have non : bo ≠ bn := Nat.ne_of_lt (Nat.lt_of_lt_of_le Bo_30.lt l31); have npn : bp ≠ bn := Nat.ne_of_lt (Nat.lt_of_lt_of_le Bp_30.lt l31); have nsn : bs ≠ bn := Nat.ne_of_lt (Nat.lt_of_lt_of_le Bs_30.lt l31); have lon := Nat.le_trans Om_30.le l31; have Bx_31 := Bx_30.keep k31; have Bf_31 := Bf_30.keep k31; have Bo_31 := Bo_30.keep k31; have Bp_31 := Bp_30.keep k31; have Bs_31 := Bs_30.keep k31; have Ov_31 := Ov_30.keep k31; have Om_31 := Om_30.keep k31; have Hw31 := bq_trans Hw30 k31; clear l31 k31 Bx_30 Bf_30 Bo_30 Bp_30 Bs_30 Ov_30 Om_30 cf_12_30 Hw30)
              | (refine wl_appC 26 65 5 _ Try.underlying26 sp_info rfl (by decide) _ _ rfl rfl WB.heap.size _ rfl (L.map iL) Ov_31.1.1 bn 1 _ _ rfl Bn_31 rfl (by kernel_rfl) HLE.out (Nat.le_trans HWB.out Om_31.le) ?_; intro vn W32 hO k32; have Bx_32 := Bx_31.under k32 ltx; have Bf_32 := Bf_31.under k32 ltf; have Bo_32 := Bo_31.under k32 lto; have Bp_32 := Bp_31.under k32 ltp; have Hw32 := Hw31.trans (k32.mono le); intro hgr hat; have Ov := (OwnP.snoc (x := [v, r, g, b, a]) Ov_31.1 rfl H5.out hO).m; have hone := hO.one; have Om2 : SzM W32 WB.heap.size WB.heap.size := ⟨Nat.le_trans (Nat.le_trans HWB.out Om_31.le) hgr.size⟩; clear hgr hat hO Ov_31 Om_31 Bn_31; clear k32 Bx_31 Bf_31 Bo_31 Bp_31 Hw31)
              | (refine wl_set 26 _ _ rfl rfl bf 12 rfl vn rfl hone size26g8 _ _ Bf_32 (by decide : 12 < 14) ?_; intro W33 Bf_33 T33; have Bx_33 := T33.blk Bx_32 nxf; have Bo_33 := T33.blk Bo_32 nof; have Bp_33 := T33.blk Bp_32 npf; have Ov_33 := Ov.turned T33 (Or.inl ltf); have Om_33 := Om2.turned T33 (Or.inl ltf); have Hw33 := T33.below Hw32 gf; clear T33 Bx_32 Bo_32 Bp_32 Ov Om2 Bf_32 Hw32))
            go_roundw
            case rel => exact ⟨p + 1 + 1, vn, by omega, by go_num, by rw [HZ.out]; exact Bx_33, Bf_33, Bo_33, Bp_33, by rw [HZ.out]; exact Ov_33.1, by rw [HZ.out]; simp [HLN.out], Hw33, Om_33.le⟩
            case measure => simp [intOf]; omega
      · have q1 : (ye == 0) = false := beq_eq_false_iff_ne.2 he
        have i2 : (k : Int) < (N : Int) := by omega
        have HR := Lib.hid (HEX.out (Or.inr he))
        have HOW := Lib.hid hown
        have HGX : Hid (But bo bp wr wr) := Lib.hid (but_refl _ _ _)
        obtain ⟨sa, sc, rfl⟩ := hown.1.slice
        clear hown HEX HST2 HFV hys
        generalize (List.map iL L).length = sn at *
        go_wp2_with fail
        refine Dex.wp_two _ _ _ _ (by kernel_rfl) (by kernel_rfl) 28 53 14 3 Try.underlying28 rfl size28g8 Try.underlying53 rfl size62 _ _ _ _ _ _ rfl rfl rfl rfl rfl rfl rfl rfl bf bx bo bp _ _ _ _ _ _ _ _ BF BX BO BP rfl rfl rfl rfl (by kernel_rfl) (by kernel_rfl) (Ne.symm nof) (Ne.symm npf) nxo nxp nop rfl rfl rfl rfl rfl rfl ?_
        intro W9 R9 S9 k9
        go_wp2
        exact post_cell2 Try.underlying28 rfl size28g8 Try.underlying53 rfl size62 Try.results46 R9 rfl S9 rfl rfl rfl rfl ⟨_, by rw [HR.out, ← HQ.out], by rw [HR.out]; exact (HOW.out.but k9 lto ltp).weaken le, k9.below HB.out go gp⟩
    · have i2 : ¬ (k : Int) < (N : Int) := by omega
      have HR := Lib.hid (HEX.out (Or.inl (by omega)))
      have HOW := Lib.hid hown
      have HGX : Hid (But bo bp wr wr) := Lib.hid (but_refl _ _ _)
      obtain ⟨sa, sc, rfl⟩ := hown.1.slice
      clear hown HEX HST2 HFV hys
      generalize (List.map iL L).length = sn at *
      go_wp2_with fail
      refine Dex.wp_two _ _ _ _ (by kernel_rfl) (by kernel_rfl) 28 53 14 3 Try.underlying28 rfl size28g8 Try.underlying53 rfl size62 _ _ _ _ _ _ rfl rfl rfl rfl rfl rfl rfl rfl bf bx bo bp _ _ _ _ _ _ _ _ BF BX BO BP rfl rfl rfl rfl (by kernel_rfl) (by kernel_rfl) (Ne.symm nof) (Ne.symm npf) nxo nxp nop rfl rfl rfl rfl rfl rfl ?_
      intro W9 R9 S9 k9
      go_wp2
      exact post_cell2 Try.underlying28 rfl size28g8 Try.underlying53 rfl size62 Try.results46 R9 rfl S9 rfl rfl rfl rfl ⟨_, by rw [HR.out, ← HQ.out], by rw [HR.out]; exact (HOW.out.but k9 lto ltp).weaken le, k9.below HB.out go gp⟩
end Go.Proofs.Ythlnjipefeglpaa
