import Derived.Test.YtfaipbdkkkhacaaYQ
import Derived.Test.YtfaipbdkkkhacaaYI
import Derived.Test.YtfaipbdkkkhacaaYV
/- Layer 7: FieldTakes. -/
namespace Go.Proofs.Ytfaipbdkkkhacaa
open Go.RowKit
set_option linter.unusedVariables false
set_option maxRecDepth 100000

theorem sizeInP : (Try.prog.info? 62).map (·.size) = some 3 := by kernel_rfl
theorem zeroInP (w : World) : (zeroValue 62).run Try.prog w = .ok (.agg #[.string ⟨#[]⟩, .int .i64 0, .int .i64 0]) w := Try.zeroValue62 w
theorem eqRdP (s : ByteArray) (a : Int) (w : World) : (Op.equalIn 10000 60 (.agg #[.string s, .int .i64 a]) (.agg #[.string s, .int .i64 a])).run Try.prog w = .ok true w := by
  go_simp
theorem rgV_lenP (s : ByteArray) (a : Int) : (rgV s a).length = 4 := by
  unfold rgV
  split
  · rename_i h
    rw [List.length_map]
    have hb : byE s.size a 4 = 0 → (0 ≤ a ∧ a ≤ 8 * s.size ∧ (0 : Int) ≤ 4) ∧ ¬ ((s.size : Int) - (a + 7) / 8 < 4) := fun h => by
      unfold byE at h
      split at h
      · rename_i hh
        split at h
        · cases h
        · rename_i h2; exact ⟨hh, h2⟩
      · cases h
    obtain ⟨⟨h0, h1, _⟩, h2⟩ := hb h
    have : (byB s a 4).data.toList.length = (byB s a 4).size := by rw [Array.length_toList]; rfl
    rw [this]
    unfold byB
    rw [if_pos h, ByteArray.size_extract]
    have e4 : (4 : Int).toNat = 4 := rfl
    rw [e4]
    omega
  · rfl
set_option maxHeartbeats 1000000 in
theorem ftakes_big (s : ByteArray) (a : Int) (w : World) (hs : 1024 < s.size) : Calls Try.prog 4 #[.agg #[.string s, .int .i64 a]] w fun e w' => e = .returned (.bool true) ∧ Below w.heap.size w w' := by
  go_enter Try.func4, Try.ntmps4
  go_wp2_with (first
    | (refine wl_box 51 _ _ rfl rfl (show _ = Value.agg #[.string s, .int .i64 a] from rfl) ?_; intro W1 bw Bw_1 l1 k1; have gw : w.heap.size ≤ bw := l1; have Hw1 := k1; clear l1 k1; have cw_0_1 : W1.cell? ⟨bw, 0, none⟩ = some (.string s) := Bw_1.cell 0)
    | (go_at_call 8; (with_reducible refine (awake_any _).mono ?_); rintro e W2 ⟨rfl, k2⟩; have Bw_2 := Bw_1.keep k2; have Hw2 := bq_trans Hw1 k2; clear k2 Bw_1 cw_0_1 Hw1))
  go_ret
  exact ⟨rfl, Hw2⟩
set_option maxHeartbeats 8000000 in
theorem ftakes_all (l r t b ma mb mc md mx my c0 c1 c2 c3 d0 d1 d2 d3 k0 k1 k2 k3 a a1 a2 a3 a4 e1 e2 e3 e4 : Int) (s s1 s2 s3 s4 : ByteArray) (w : World) (hs : s.size ≤ 1024)
    (T1 : Hid (∀ W, Calls Try.prog 26 #[.agg #[.string s, .int .i64 a]] W fun e w' => e = .returned (.tuple #[.agg #[.int .i64 l, .int .i64 r, .int .i64 t, .int .i64 b], .agg #[.string s1, .int .i64 a1], .int .i64 e1]) ∧ Below W.heap.size W w'))
    (D1 : Hid (∀ W, Calls Try.prog 30 #[.agg #[.string s, .int .i64 a]] W fun e w' => e = .returned (.tuple #[.agg #[.int .i64 l, .int .i64 r, .int .i64 t, .int .i64 b], .agg #[.string s1, .int .i64 a1, .int .i64 e1]]) ∧ Below W.heap.size W w'))
    (T2 : Hid (∀ W, Calls Try.prog 27 #[.agg #[.string s, .int .i64 a]] W fun e w' => e = .returned (.tuple #[.agg #[.int .i64 ma, .int .i64 mb, .int .i64 mc, .int .i64 md, .int .i64 mx, .int .i64 my], .agg #[.string s2, .int .i64 a2], .int .i64 e2]) ∧ Below W.heap.size W w'))
    (D2 : Hid (∀ W, Calls Try.prog 32 #[.agg #[.string s, .int .i64 a]] W fun e w' => e = .returned (.tuple #[.agg #[.int .i64 ma, .int .i64 mb, .int .i64 mc, .int .i64 md, .int .i64 mx, .int .i64 my], .agg #[.string s2, .int .i64 a2, .int .i64 e2]]) ∧ Below W.heap.size W w'))
    (T3 : Hid (∀ W, Calls Try.prog 28 #[.agg #[.string s, .int .i64 a]] W fun e w' => e = .returned (.tuple #[.agg #[.int .i64 c0, .int .i64 c1, .int .i64 c2, .int .i64 c3, .int .i64 d0, .int .i64 d1, .int .i64 d2, .int .i64 d3], .agg #[.string s3, .int .i64 a3], .int .i64 e3]) ∧ Below W.heap.size W w'))
    (D3 : Hid (∀ W, Calls Try.prog 33 #[.agg #[.string s, .int .i64 a]] W fun e w' => e = .returned (.tuple #[.agg #[.int .i64 c0, .int .i64 c1, .int .i64 c2, .int .i64 c3, .int .i64 d0, .int .i64 d1, .int .i64 d2, .int .i64 d3], .agg #[.string s3, .int .i64 a3, .int .i64 e3]]) ∧ Below W.heap.size W w'))
    (T4 : Hid (∀ W, Calls Try.prog 29 #[.agg #[.string s, .int .i64 a]] W fun e w' => e = .returned (.tuple #[.agg #[.int .i64 k0, .int .i64 k1, .int .i64 k2, .int .i64 k3], .agg #[.string s4, .int .i64 a4], .int .i64 e4]) ∧ Below W.heap.size W w'))
    (D4 : Hid (∀ W, Calls Try.prog 34 #[.agg #[.string s, .int .i64 a]] W fun e w' => e = .returned (.tuple #[.agg #[.int .i64 k0, .int .i64 k1, .int .i64 k2, .int .i64 k3], .agg #[.string s4, .int .i64 a4, .int .i64 e4]]) ∧ Below W.heap.size W w'))
    : Calls Try.prog 4 #[.agg #[.string s, .int .i64 a]] w fun e w' => e = .returned (.bool true) ∧ Below w.heap.size w w' := by
  go_enter Try.func4, Try.ntmps4
  go_upto_region 11 with (go_big_may; first
    | (refine wl_box 51 _ _ rfl rfl (show _ = Value.agg #[.string s, .int .i64 a] from rfl) ?_; intro W1 bw Bw_1 l1 k1; have gw : w.heap.size ≤ bw := l1; have Hw1 := k1; clear l1 k1; have cw_0_1 : W1.cell? ⟨bw, 0, none⟩ = some (.string s) := Bw_1.cell 0)
    | (refine wl_load 51 2 _ Try.underlying51 rfl size51 _ rfl rfl _ rfl _ _ Bw_1 rfl ?_)
    | (go_at_call 26; (with_reducible refine (T1.out _).mono ?_); rintro e W2 ⟨rfl, k2⟩; have Bw_2 := Bw_1.keep k2; have Hw2 := bq_trans Hw1 k2; clear k2 Bw_1 cw_0_1 Hw1)
    | (refine wl_alloc 25 _ zero25e rfl rfl ?_; intro W3 bv Bv_3 l3 k3; have gv : w.heap.size ≤ bv := Nat.le_trans Hw2.size l3; have nwv : bw ≠ bv := Nat.ne_of_lt (Nat.lt_of_lt_of_le Bw_2.lt l3); have Bw_3 := Bw_2.keep k3; have Hw3 := bq_trans Hw2 k3; clear l3 k3 Bw_2 Hw2)
    | (refine wl_alloc 51 _ zero51 rfl rfl ?_; intro W4 bx Bx_4 l4 k4; have gx : w.heap.size ≤ bx := Nat.le_trans Hw3.size l4; have nwx : bw ≠ bx := Nat.ne_of_lt (Nat.lt_of_lt_of_le Bw_3.lt l4); have nvx : bv ≠ bx := Nat.ne_of_lt (Nat.lt_of_lt_of_le Bv_3.lt l4); have Bw_4 := Bw_3.keep k4; have Bv_4 := Bv_3.keep k4; have Hw4 := bq_trans Hw3 k4; clear l4 k4 Bw_3 Bv_3 Hw3)
    | (refine wl_store 25 4 size25 _ _ rfl rfl _ rfl _ rfl _ _ Bv_4 rfl rfl (by kernel_rfl) ?_; intro W5 Bv_5 T5; have Bw_5 := T5.blk Bw_4 nwv; have Bx_5 := T5.blk Bx_4 (Ne.symm nvx); have Hw5 := T5.below Hw4 gv; clear T5 Bw_4 Bx_4 Bv_4 Hw4)
    | (refine wl_store 51 2 size51 _ _ rfl rfl _ rfl _ rfl _ _ Bx_5 rfl rfl (by kernel_rfl) ?_; intro W6 Bx_6 T6; have Bw_6 := T6.blk Bw_5 nwx; have Bv_6 := T6.blk Bv_5 nvx; have Hw6 := T6.below Hw5 gx; clear T6 Bw_5 Bv_5 Bx_5 Hw5)
    | (refine wl_load 51 2 _ Try.underlying51 rfl size51 _ rfl rfl _ rfl _ _ Bw_6 rfl ?_)
    | (go_at_call 27; (with_reducible refine (T2.out _).mono ?_); rintro e W7 ⟨rfl, k7⟩; have Bw_7 := Bw_6.keep k7; have Bv_7 := Bv_6.keep k7; have Bx_7 := Bx_6.keep k7; have Hw7 := bq_trans Hw6 k7; clear k7 Bw_6 Bv_6 Bx_6 Hw6)
    | (refine wl_alloc 27 _ zero27 rfl rfl ?_; intro W8 bf Bf_8 l8 k8; have gf : w.heap.size ≤ bf := Nat.le_trans Hw7.size l8; have nwf : bw ≠ bf := Nat.ne_of_lt (Nat.lt_of_lt_of_le Bw_7.lt l8); have nvf : bv ≠ bf := Nat.ne_of_lt (Nat.lt_of_lt_of_le Bv_7.lt l8); have nxf : bx ≠ bf := Nat.ne_of_lt (Nat.lt_of_lt_of_le Bx_7.lt l8); have Bw_8 := Bw_7.keep k8; have Bv_8 := Bv_7.keep k8; have Bx_8 := Bx_7.keep k8; have Hw8 := bq_trans Hw7 k8; clear l8 k8 Bw_7 Bv_7 Bx_7 Hw7)
    | (refine wl_alloc 51 _ zero51 rfl rfl ?_; intro W9 bg Bg_9 l9 k9; have gg : w.heap.size ≤ bg := Nat.le_trans Hw8.size l9; have nwg : bw ≠ bg := Nat.ne_of_lt (Nat.lt_of_lt_of_le Bw_8.lt l9); have nvg : bv ≠ bg := Nat.ne_of_lt (Nat.lt_of_lt_of_le Bv_8.lt l9); have nxg : bx ≠ bg := Nat.ne_of_lt (Nat.lt_of_lt_of_le Bx_8.lt l9); have nfg : bf ≠ bg := Nat.ne_of_lt (Nat.lt_of_lt_of_le Bf_8.lt l9); have Bw_9 := Bw_8.keep k9; have Bv_9 := Bv_8.keep k9; have Bx_9 := Bx_8.keep k9; have Bf_9 := Bf_8.keep k9; have Hw9 := bq_trans Hw8 k9; clear l9 k9 Bw_8 Bv_8 Bx_8 Bf_8 Hw8)
    | (refine wl_store 27 6 size27 _ _ rfl rfl _ rfl _ rfl _ _ Bf_9 rfl rfl (by kernel_rfl) ?_; intro W10 Bf_10 T10; have Bw_10 := T10.blk Bw_9 nwf; have Bv_10 := T10.blk Bv_9 nvf; have Bx_10 := T10.blk Bx_9 nxf; have Bg_10 := T10.blk Bg_9 (Ne.symm nfg); have Hw10 := T10.below Hw9 gf; clear T10 Bw_9 Bv_9 Bx_9 Bg_9 Bf_9 Hw9)
    | (refine wl_store 51 2 size51 _ _ rfl rfl _ rfl _ rfl _ _ Bg_10 rfl rfl (by kernel_rfl) ?_; intro W11 Bg_11 T11; have Bw_11 := T11.blk Bw_10 nwg; have Bv_11 := T11.blk Bv_10 nvg; have Bx_11 := T11.blk Bx_10 nxg; have Bf_11 := T11.blk Bf_10 nfg; have Hw11 := T11.below Hw10 gg; clear T11 Bw_10 Bv_10 Bx_10 Bf_10 Bg_10 Hw10)
    | (refine wl_load 51 2 _ Try.underlying51 rfl size51 _ rfl rfl _ rfl _ _ Bw_11 rfl ?_)
    | (go_at_call 28; (with_reducible refine (T3.out _).mono ?_); rintro e W12 ⟨rfl, k12⟩; have Bw_12 := Bw_11.keep k12; have Bv_12 := Bv_11.keep k12; have Bx_12 := Bx_11.keep k12; have Bf_12 := Bf_11.keep k12; have Bg_12 := Bg_11.keep k12; have Hw12 := bq_trans Hw11 k12; clear k12 Bw_11 Bv_11 Bx_11 Bf_11 Bg_11 Hw11)
    | (refine wl_alloc 30 _ zero30 rfl rfl ?_; intro W13 bc Bc_13 l13 k13; have gc : w.heap.size ≤ bc := Nat.le_trans Hw12.size l13; have nwc : bw ≠ bc := Nat.ne_of_lt (Nat.lt_of_lt_of_le Bw_12.lt l13); have nvc : bv ≠ bc := Nat.ne_of_lt (Nat.lt_of_lt_of_le Bv_12.lt l13); have nxc : bx ≠ bc := Nat.ne_of_lt (Nat.lt_of_lt_of_le Bx_12.lt l13); have nfc : bf ≠ bc := Nat.ne_of_lt (Nat.lt_of_lt_of_le Bf_12.lt l13); have ngc : bg ≠ bc := Nat.ne_of_lt (Nat.lt_of_lt_of_le Bg_12.lt l13); have Bw_13 := Bw_12.keep k13; have Bv_13 := Bv_12.keep k13; have Bx_13 := Bx_12.keep k13; have Bf_13 := Bf_12.keep k13; have Bg_13 := Bg_12.keep k13; have Hw13 := bq_trans Hw12 k13; clear l13 k13 Bw_12 Bv_12 Bx_12 Bf_12 Bg_12 Hw12)
    | (refine wl_alloc 51 _ zero51 rfl rfl ?_; intro W14 bd Bd_14 l14 k14; have gd : w.heap.size ≤ bd := Nat.le_trans Hw13.size l14; have nwd : bw ≠ bd := Nat.ne_of_lt (Nat.lt_of_lt_of_le Bw_13.lt l14); have nvd : bv ≠ bd := Nat.ne_of_lt (Nat.lt_of_lt_of_le Bv_13.lt l14); have nxd : bx ≠ bd := Nat.ne_of_lt (Nat.lt_of_lt_of_le Bx_13.lt l14); have nfd : bf ≠ bd := Nat.ne_of_lt (Nat.lt_of_lt_of_le Bf_13.lt l14); have ngd : bg ≠ bd := Nat.ne_of_lt (Nat.lt_of_lt_of_le Bg_13.lt l14); have ncd : bc ≠ bd := Nat.ne_of_lt (Nat.lt_of_lt_of_le Bc_13.lt l14); have Bw_14 := Bw_13.keep k14; have Bv_14 := Bv_13.keep k14; have Bx_14 := Bx_13.keep k14; have Bf_14 := Bf_13.keep k14; have Bg_14 := Bg_13.keep k14; have Bc_14 := Bc_13.keep k14; have Hw14 := bq_trans Hw13 k14; clear l14 k14 Bw_13 Bv_13 Bx_13 Bf_13 Bg_13 Bc_13 Hw13)
    | (refine wl_store 30 8 size30 _ _ rfl rfl _ rfl _ rfl _ _ Bc_14 rfl rfl (by kernel_rfl) ?_; intro W15 Bc_15 T15; have Bw_15 := T15.blk Bw_14 nwc; have Bv_15 := T15.blk Bv_14 nvc; have Bx_15 := T15.blk Bx_14 nxc; have Bf_15 := T15.blk Bf_14 nfc; have Bg_15 := T15.blk Bg_14 ngc; have Bd_15 := T15.blk Bd_14 (Ne.symm ncd); have Hw15 := T15.below Hw14 gc; clear T15 Bw_14 Bv_14 Bx_14 Bf_14 Bg_14 Bd_14 Bc_14 Hw14)
    | (refine wl_store 51 2 size51 _ _ rfl rfl _ rfl _ rfl _ _ Bd_15 rfl rfl (by kernel_rfl) ?_; intro W16 Bd_16 T16; have Bw_16 := T16.blk Bw_15 nwd; have Bv_16 := T16.blk Bv_15 nvd; have Bx_16 := T16.blk Bx_15 nxd; have Bf_16 := T16.blk Bf_15 nfd; have Bg_16 := T16.blk Bg_15 ngd; have Bc_16 := T16.blk Bc_15 ncd; have Hw16 := T16.below Hw15 gd; clear T16 Bw_15 Bv_15 Bx_15 Bf_15 Bg_15 Bc_15 Bd_15 Hw15)
    | (refine wl_load 51 2 _ Try.underlying51 rfl size51 _ rfl rfl _ rfl _ _ Bw_16 rfl ?_)
    | (go_at_call 29; (with_reducible refine (T4.out _).mono ?_); rintro e W17 ⟨rfl, k17⟩; have Bw_17 := Bw_16.keep k17; have Bv_17 := Bv_16.keep k17; have Bx_17 := Bx_16.keep k17; have Bf_17 := Bf_16.keep k17; have Bg_17 := Bg_16.keep k17; have Bc_17 := Bc_16.keep k17; have Bd_17 := Bd_16.keep k17; have Hw17 := bq_trans Hw16 k17; clear k17 Bw_16 Bv_16 Bx_16 Bf_16 Bg_16 Bc_16 Bd_16 Hw16)
    | (refine wl_alloc 32 _ zero32 rfl rfl ?_; intro W18 bk Bk_18 l18 k18; have gk : w.heap.size ≤ bk := Nat.le_trans Hw17.size l18; have nwk : bw ≠ bk := Nat.ne_of_lt (Nat.lt_of_lt_of_le Bw_17.lt l18); have nvk : bv ≠ bk := Nat.ne_of_lt (Nat.lt_of_lt_of_le Bv_17.lt l18); have nxk : bx ≠ bk := Nat.ne_of_lt (Nat.lt_of_lt_of_le Bx_17.lt l18); have nfk : bf ≠ bk := Nat.ne_of_lt (Nat.lt_of_lt_of_le Bf_17.lt l18); have ngk : bg ≠ bk := Nat.ne_of_lt (Nat.lt_of_lt_of_le Bg_17.lt l18); have nck : bc ≠ bk := Nat.ne_of_lt (Nat.lt_of_lt_of_le Bc_17.lt l18); have ndk : bd ≠ bk := Nat.ne_of_lt (Nat.lt_of_lt_of_le Bd_17.lt l18); have Bw_18 := Bw_17.keep k18; have Bv_18 := Bv_17.keep k18; have Bx_18 := Bx_17.keep k18; have Bf_18 := Bf_17.keep k18; have Bg_18 := Bg_17.keep k18; have Bc_18 := Bc_17.keep k18; have Bd_18 := Bd_17.keep k18; have Hw18 := bq_trans Hw17 k18; clear l18 k18 Bw_17 Bv_17 Bx_17 Bf_17 Bg_17 Bc_17 Bd_17 Hw17)
    | (refine wl_alloc 51 _ zero51 rfl rfl ?_; intro W19 bm Bm_19 l19 k19; have gm : w.heap.size ≤ bm := Nat.le_trans Hw18.size l19; have nwm : bw ≠ bm := Nat.ne_of_lt (Nat.lt_of_lt_of_le Bw_18.lt l19); have nvm : bv ≠ bm := Nat.ne_of_lt (Nat.lt_of_lt_of_le Bv_18.lt l19); have nxm : bx ≠ bm := Nat.ne_of_lt (Nat.lt_of_lt_of_le Bx_18.lt l19); have nfm : bf ≠ bm := Nat.ne_of_lt (Nat.lt_of_lt_of_le Bf_18.lt l19); have ngm : bg ≠ bm := Nat.ne_of_lt (Nat.lt_of_lt_of_le Bg_18.lt l19); have ncm : bc ≠ bm := Nat.ne_of_lt (Nat.lt_of_lt_of_le Bc_18.lt l19); have ndm : bd ≠ bm := Nat.ne_of_lt (Nat.lt_of_lt_of_le Bd_18.lt l19); have nkm : bk ≠ bm := Nat.ne_of_lt (Nat.lt_of_lt_of_le Bk_18.lt l19); have Bw_19 := Bw_18.keep k19; have Bv_19 := Bv_18.keep k19; have Bx_19 := Bx_18.keep k19; have Bf_19 := Bf_18.keep k19; have Bg_19 := Bg_18.keep k19; have Bc_19 := Bc_18.keep k19; have Bd_19 := Bd_18.keep k19; have Bk_19 := Bk_18.keep k19; have Hw19 := bq_trans Hw18 k19; clear l19 k19 Bw_18 Bv_18 Bx_18 Bf_18 Bg_18 Bc_18 Bd_18 Bk_18 Hw18)
    | (refine wl_store 32 4 size32 _ _ rfl rfl _ rfl _ rfl _ _ Bk_19 rfl rfl (by kernel_rfl) ?_; intro W20 Bk_20 T20; have Bw_20 := T20.blk Bw_19 nwk; have Bv_20 := T20.blk Bv_19 nvk; have Bx_20 := T20.blk Bx_19 nxk; have Bf_20 := T20.blk Bf_19 nfk; have Bg_20 := T20.blk Bg_19 ngk; have Bc_20 := T20.blk Bc_19 nck; have Bd_20 := T20.blk Bd_19 ndk; have Bm_20 := T20.blk Bm_19 (Ne.symm nkm); have Hw20 := T20.below Hw19 gk; clear T20 Bw_19 Bv_19 Bx_19 Bf_19 Bg_19 Bc_19 Bd_19 Bm_19 Bk_19 Hw19)
    | (refine wl_store 51 2 size51 _ _ rfl rfl _ rfl _ rfl _ _ Bm_20 rfl rfl (by kernel_rfl) ?_; intro W21 Bm_21 T21; have Bw_21 := T21.blk Bw_20 nwm; have Bv_21 := T21.blk Bv_20 nvm; have Bx_21 := T21.blk Bx_20 nxm; have Bf_21 := T21.blk Bf_20 nfm; have Bg_21 := T21.blk Bg_20 ngm; have Bc_21 := T21.blk Bc_20 ncm; have Bd_21 := T21.blk Bd_20 ndm; have Bk_21 := T21.blk Bk_20 nkm; have Hw21 := T21.below Hw20 gm; clear T21 Bw_20 Bv_20 Bx_20 Bf_20 Bg_20 Bc_20 Bd_20 Bk_20 Bm_20 Hw20)
    | (refine wl_load 51 2 _ Try.underlying51 rfl size51 _ rfl rfl _ rfl _ _ Bw_21 rfl ?_)
    | (go_at_call 31; (with_reducible refine (lawin_any s a _).mono ?_); rintro e W22 ⟨rfl, k22⟩; have Bw_22 := Bw_21.keep k22; have Bv_22 := Bv_21.keep k22; have Bx_22 := Bx_21.keep k22; have Bf_22 := Bf_21.keep k22; have Bg_22 := Bg_21.keep k22; have Bc_22 := Bc_21.keep k22; have Bd_22 := Bd_21.keep k22; have Bk_22 := Bk_21.keep k22; have Bm_22 := Bm_21.keep k22; have Hw22 := bq_trans Hw21 k22; clear k22 Bw_21 Bv_21 Bx_21 Bf_21 Bg_21 Bc_21 Bd_21 Bk_21 Bm_21 Hw21)
    | (go_at_call 30; (with_reducible refine (D1.out _).mono ?_); rintro e W23 ⟨rfl, k23⟩; have Bw_23 := Bw_22.keep k23; have Bv_23 := Bv_22.keep k23; have Bx_23 := Bx_22.keep k23; have Bf_23 := Bf_22.keep k23; have Bg_23 := Bg_22.keep k23; have Bc_23 := Bc_22.keep k23; have Bd_23 := Bd_22.keep k23; have Bk_23 := Bk_22.keep k23; have Bm_23 := Bm_22.keep k23; have Hw23 := bq_trans Hw22 k23; clear k23 Bw_22 Bv_22 Bx_22 Bf_22 Bg_22 Bc_22 Bd_22 Bk_22 Bm_22 Hw22)
    | (refine wl_alloc 25 _ zero25e rfl rfl ?_; intro W24 bp Bp_24 l24 k24; have gp : w.heap.size ≤ bp := Nat.le_trans Hw23.size l24; have nwp : bw ≠ bp := Nat.ne_of_lt (Nat.lt_of_lt_of_le Bw_23.lt l24); have nvp : bv ≠ bp := Nat.ne_of_lt (Nat.lt_of_lt_of_le Bv_23.lt l24); have nxp : bx ≠ bp := Nat.ne_of_lt (Nat.lt_of_lt_of_le Bx_23.lt l24); have nfp : bf ≠ bp := Nat.ne_of_lt (Nat.lt_of_lt_of_le Bf_23.lt l24); have ngp : bg ≠ bp := Nat.ne_of_lt (Nat.lt_of_lt_of_le Bg_23.lt l24); have ncp : bc ≠ bp := Nat.ne_of_lt (Nat.lt_of_lt_of_le Bc_23.lt l24); have ndp : bd ≠ bp := Nat.ne_of_lt (Nat.lt_of_lt_of_le Bd_23.lt l24); have nkp : bk ≠ bp := Nat.ne_of_lt (Nat.lt_of_lt_of_le Bk_23.lt l24); have nmp : bm ≠ bp := Nat.ne_of_lt (Nat.lt_of_lt_of_le Bm_23.lt l24); have Bw_24 := Bw_23.keep k24; have Bv_24 := Bv_23.keep k24; have Bx_24 := Bx_23.keep k24; have Bf_24 := Bf_23.keep k24; have Bg_24 := Bg_23.keep k24; have Bc_24 := Bc_23.keep k24; have Bd_24 := Bd_23.keep k24; have Bk_24 := Bk_23.keep k24; have Bm_24 := Bm_23.keep k24; have Hw24 := bq_trans Hw23 k24; clear l24 k24 Bw_23 Bv_23 Bx_23 Bf_23 Bg_23 Bc_23 Bd_23 Bk_23 Bm_23 Hw23)
    | (refine wl_alloc 62 _ zeroInP rfl rfl ?_; intro W25 bq Bq_25 l25 k25; have gq : w.heap.size ≤ bq := Nat.le_trans Hw24.size l25; have nwq : bw ≠ bq := Nat.ne_of_lt (Nat.lt_of_lt_of_le Bw_24.lt l25); have nvq : bv ≠ bq := Nat.ne_of_lt (Nat.lt_of_lt_of_le Bv_24.lt l25); have nxq : bx ≠ bq := Nat.ne_of_lt (Nat.lt_of_lt_of_le Bx_24.lt l25); have nfq : bf ≠ bq := Nat.ne_of_lt (Nat.lt_of_lt_of_le Bf_24.lt l25); have ngq : bg ≠ bq := Nat.ne_of_lt (Nat.lt_of_lt_of_le Bg_24.lt l25); have ncq : bc ≠ bq := Nat.ne_of_lt (Nat.lt_of_lt_of_le Bc_24.lt l25); have ndq : bd ≠ bq := Nat.ne_of_lt (Nat.lt_of_lt_of_le Bd_24.lt l25); have nkq : bk ≠ bq := Nat.ne_of_lt (Nat.lt_of_lt_of_le Bk_24.lt l25); have nmq : bm ≠ bq := Nat.ne_of_lt (Nat.lt_of_lt_of_le Bm_24.lt l25); have npq : bp ≠ bq := Nat.ne_of_lt (Nat.lt_of_lt_of_le Bp_24.lt l25); have Bw_25 := Bw_24.keep k25; have Bv_25 := Bv_24.keep k25; have Bx_25 := Bx_24.keep k25; have Bf_25 := Bf_24.keep k25; have Bg_25 := Bg_24.keep k25; have Bc_25 := Bc_24.keep k25; have Bd_25 := Bd_24.keep k25; have Bk_25 := Bk_24.keep k25; have Bm_25 := Bm_24.keep k25; have Bp_25 := Bp_24.keep k25; have Hw25 := bq_trans Hw24 k25; clear l25 k25 Bw_24 Bv_24 Bx_24 Bf_24 Bg_24 Bc_24 Bd_24 Bk_24 Bm_24 Bp_24 Hw24)
    | (refine wl_store 25 4 size25 _ _ rfl rfl _ rfl _ rfl _ _ Bp_25 rfl rfl (by kernel_rfl) ?_; intro W26 Bp_26 T26; have Bw_26 := T26.blk Bw_25 nwp; have Bv_26 := T26.blk Bv_25 nvp; have Bx_26 := T26.blk Bx_25 nxp; have Bf_26 := T26.blk Bf_25 nfp; have Bg_26 := T26.blk Bg_25 ngp; have Bc_26 := T26.blk Bc_25 ncp; have Bd_26 := T26.blk Bd_25 ndp; have Bk_26 := T26.blk Bk_25 nkp; have Bm_26 := T26.blk Bm_25 nmp; have Bq_26 := T26.blk Bq_25 (Ne.symm npq); have Hw26 := T26.below Hw25 gp; clear T26 Bw_25 Bv_25 Bx_25 Bf_25 Bg_25 Bc_25 Bd_25 Bk_25 Bm_25 Bq_25 Bp_25 Hw25)
    | (refine wl_store 62 3 sizeInP _ _ rfl rfl _ rfl _ rfl _ _ Bq_26 rfl rfl (by kernel_rfl) ?_; intro W27 Bq_27 T27; have Bw_27 := T27.blk Bw_26 nwq; have Bv_27 := T27.blk Bv_26 nvq; have Bx_27 := T27.blk Bx_26 nxq; have Bf_27 := T27.blk Bf_26 nfq; have Bg_27 := T27.blk Bg_26 ngq; have Bc_27 := T27.blk Bc_26 ncq; have Bd_27 := T27.blk Bd_26 ndq; have Bk_27 := T27.blk Bk_26 nkq; have Bm_27 := T27.blk Bm_26 nmq; have Bp_27 := T27.blk Bp_26 npq; have Hw27 := T27.below Hw26 gq; clear T27 Bw_26 Bv_26 Bx_26 Bf_26 Bg_26 Bc_26 Bd_26 Bk_26 Bm_26 Bp_26 Bq_26 Hw26)
    | (refine wl_load 51 2 _ Try.underlying51 rfl size51 _ rfl rfl _ rfl _ _ Bw_27 rfl ?_)
    | (go_at_call 31; (with_reducible refine (lawin_any s a _).mono ?_); rintro e W28 ⟨rfl, k28⟩; have Bw_28 := Bw_27.keep k28; have Bv_28 := Bv_27.keep k28; have Bx_28 := Bx_27.keep k28; have Bf_28 := Bf_27.keep k28; have Bg_28 := Bg_27.keep k28; have Bc_28 := Bc_27.keep k28; have Bd_28 := Bd_27.keep k28; have Bk_28 := Bk_27.keep k28; have Bm_28 := Bm_27.keep k28; have Bp_28 := Bp_27.keep k28; have Bq_28 := Bq_27.keep k28; have Hw28 := bq_trans Hw27 k28; clear k28 Bw_27 Bv_27 Bx_27 Bf_27 Bg_27 Bc_27 Bd_27 Bk_27 Bm_27 Bp_27 Bq_27 Hw27)
    | (go_at_call 32; (with_reducible refine (D2.out _).mono ?_); rintro e W29 ⟨rfl, k29⟩; have Bw_29 := Bw_28.keep k29; have Bv_29 := Bv_28.keep k29; have Bx_29 := Bx_28.keep k29; have Bf_29 := Bf_28.keep k29; have Bg_29 := Bg_28.keep k29; have Bc_29 := Bc_28.keep k29; have Bd_29 := Bd_28.keep k29; have Bk_29 := Bk_28.keep k29; have Bm_29 := Bm_28.keep k29; have Bp_29 := Bp_28.keep k29; have Bq_29 := Bq_28.keep k29; have Hw29 := bq_trans Hw28 k29; clear k29 Bw_28 Bv_28 Bx_28 Bf_28 Bg_28 Bc_28 Bd_28 Bk_28 Bm_28 Bp_28 Bq_28 Hw28)
    | (refine wl_alloc 27 _ zero27 rfl rfl ?_; intro W30 bh Bh_30 l30 k30; have gh : w.heap.size ≤ bh := Nat.le_trans Hw29.size l30; have nwh : bw ≠ bh := Nat.ne_of_lt (Nat.lt_of_lt_of_le Bw_29.lt l30); have nvh : bv ≠ bh := Nat.ne_of_lt (Nat.lt_of_lt_of_le Bv_29.lt l30); have nxh : bx ≠ bh := Nat.ne_of_lt (Nat.lt_of_lt_of_le Bx_29.lt l30); have nfh : bf ≠ bh := Nat.ne_of_lt (Nat.lt_of_lt_of_le Bf_29.lt l30); have ngh : bg ≠ bh := Nat.ne_of_lt (Nat.lt_of_lt_of_le Bg_29.lt l30); have nch : bc ≠ bh := Nat.ne_of_lt (Nat.lt_of_lt_of_le Bc_29.lt l30); have ndh : bd ≠ bh := Nat.ne_of_lt (Nat.lt_of_lt_of_le Bd_29.lt l30); have nkh : bk ≠ bh := Nat.ne_of_lt (Nat.lt_of_lt_of_le Bk_29.lt l30); have nmh : bm ≠ bh := Nat.ne_of_lt (Nat.lt_of_lt_of_le Bm_29.lt l30); have nph : bp ≠ bh := Nat.ne_of_lt (Nat.lt_of_lt_of_le Bp_29.lt l30); have nqh : bq ≠ bh := Nat.ne_of_lt (Nat.lt_of_lt_of_le Bq_29.lt l30); have Bw_30 := Bw_29.keep k30; have Bv_30 := Bv_29.keep k30; have Bx_30 := Bx_29.keep k30; have Bf_30 := Bf_29.keep k30; have Bg_30 := Bg_29.keep k30; have Bc_30 := Bc_29.keep k30; have Bd_30 := Bd_29.keep k30; have Bk_30 := Bk_29.keep k30; have Bm_30 := Bm_29.keep k30; have Bp_30 := Bp_29.keep k30; have Bq_30 := Bq_29.keep k30; have Hw30 := bq_trans Hw29 k30; clear l30 k30 Bw_29 Bv_29 Bx_29 Bf_29 Bg_29 Bc_29 Bd_29 Bk_29 Bm_29 Bp_29 Bq_29 Hw29)
    | (refine wl_alloc 62 _ zeroInP rfl rfl ?_; intro W31 bi Bi_31 l31 k31; have gi : w.heap.size ≤ bi := Nat.le_trans Hw30.size l31; have nwi : bw ≠ bi := Nat.ne_of_lt (Nat.lt_of_lt_of_le Bw_30.lt l31); have nvi : bv ≠ bi := Nat.ne_of_lt (Nat.lt_of_lt_of_le Bv_30.lt l31); have nxi : bx ≠ bi := Nat.ne_of_lt (Nat.lt_of_lt_of_le Bx_30.lt l31); have nfi : bf ≠ bi := Nat.ne_of_lt (Nat.lt_of_lt_of_le Bf_30.lt l31); have ngi : bg ≠ bi := Nat.ne_of_lt (Nat.lt_of_lt_of_le Bg_30.lt l31); have nci : bc ≠ bi := Nat.ne_of_lt (Nat.lt_of_lt_of_le Bc_30.lt l31); have ndi : bd ≠ bi := Nat.ne_of_lt (Nat.lt_of_lt_of_le Bd_30.lt l31); have nki : bk ≠ bi := Nat.ne_of_lt (Nat.lt_of_lt_of_le Bk_30.lt l31); have nmi : bm ≠ bi := Nat.ne_of_lt (Nat.lt_of_lt_of_le Bm_30.lt l31); have npi : bp ≠ bi := Nat.ne_of_lt (Nat.lt_of_lt_of_le Bp_30.lt l31); have nqi : bq ≠ bi := Nat.ne_of_lt (Nat.lt_of_lt_of_le Bq_30.lt l31); have nhi : bh ≠ bi := Nat.ne_of_lt (Nat.lt_of_lt_of_le Bh_30.lt l31); have Bw_31 := Bw_30.keep k31; have Bv_31 := Bv_30.keep k31; have Bx_31 := Bx_30.keep k31; have Bf_31 := Bf_30.keep k31; have Bg_31 := Bg_30.keep k31; have Bc_31 := Bc_30.keep k31; have Bd_31 := Bd_30.keep k31; have Bk_31 := Bk_30.keep k31; have Bm_31 := Bm_30.keep k31; have Bp_31 := Bp_30.keep k31; have Bq_31 := Bq_30.keep k31; have Bh_31 := Bh_30.keep k31; have Hw31 := bq_trans Hw30 k31; clear l31 k31 Bw_30 Bv_30 Bx_30 Bf_30 Bg_30 Bc_30 Bd_30 Bk_30 Bm_30 Bp_30 Bq_30 Bh_30 Hw30)
    | (refine wl_store 27 6 size27 _ _ rfl rfl _ rfl _ rfl _ _ Bh_31 rfl rfl (by kernel_rfl) ?_; intro W32 Bh_32 T32; have Bw_32 := T32.blk Bw_31 nwh; have Bv_32 := T32.blk Bv_31 nvh; have Bx_32 := T32.blk Bx_31 nxh; have Bf_32 := T32.blk Bf_31 nfh; have Bg_32 := T32.blk Bg_31 ngh; have Bc_32 := T32.blk Bc_31 nch; have Bd_32 := T32.blk Bd_31 ndh; have Bk_32 := T32.blk Bk_31 nkh; have Bm_32 := T32.blk Bm_31 nmh; have Bp_32 := T32.blk Bp_31 nph; have Bq_32 := T32.blk Bq_31 nqh; have Bi_32 := T32.blk Bi_31 (Ne.symm nhi); have Hw32 := T32.below Hw31 gh; clear T32 Bw_31 Bv_31 Bx_31 Bf_31 Bg_31 Bc_31 Bd_31 Bk_31 Bm_31 Bp_31 Bq_31 Bi_31 Bh_31 Hw31)
    | (refine wl_store 62 3 sizeInP _ _ rfl rfl _ rfl _ rfl _ _ Bi_32 rfl rfl (by kernel_rfl) ?_; intro W33 Bi_33 T33; have Bw_33 := T33.blk Bw_32 nwi; have Bv_33 := T33.blk Bv_32 nvi; have Bx_33 := T33.blk Bx_32 nxi; have Bf_33 := T33.blk Bf_32 nfi; have Bg_33 := T33.blk Bg_32 ngi; have Bc_33 := T33.blk Bc_32 nci; have Bd_33 := T33.blk Bd_32 ndi; have Bk_33 := T33.blk Bk_32 nki; have Bm_33 := T33.blk Bm_32 nmi; have Bp_33 := T33.blk Bp_32 npi; have Bq_33 := T33.blk Bq_32 nqi; have Bh_33 := T33.blk Bh_32 nhi; have Hw33 := T33.below Hw32 gi; clear T33 Bw_32 Bv_32 Bx_32 Bf_32 Bg_32 Bc_32 Bd_32 Bk_32 Bm_32 Bp_32 Bq_32 Bh_32 Bi_32 Hw32)
    | (refine wl_load 51 2 _ Try.underlying51 rfl size51 _ rfl rfl _ rfl _ _ Bw_33 rfl ?_)
    | (go_at_call 31; (with_reducible refine (lawin_any s a _).mono ?_); rintro e W34 ⟨rfl, k34⟩; have Bw_34 := Bw_33.keep k34; have Bv_34 := Bv_33.keep k34; have Bx_34 := Bx_33.keep k34; have Bf_34 := Bf_33.keep k34; have Bg_34 := Bg_33.keep k34; have Bc_34 := Bc_33.keep k34; have Bd_34 := Bd_33.keep k34; have Bk_34 := Bk_33.keep k34; have Bm_34 := Bm_33.keep k34; have Bp_34 := Bp_33.keep k34; have Bq_34 := Bq_33.keep k34; have Bh_34 := Bh_33.keep k34; have Bi_34 := Bi_33.keep k34; have Hw34 := bq_trans Hw33 k34; clear k34 Bw_33 Bv_33 Bx_33 Bf_33 Bg_33 Bc_33 Bd_33 Bk_33 Bm_33 Bp_33 Bq_33 Bh_33 Bi_33 Hw33)
    | (go_at_call 33; (with_reducible refine (D3.out _).mono ?_); rintro e W35 ⟨rfl, k35⟩; have Bw_35 := Bw_34.keep k35; have Bv_35 := Bv_34.keep k35; have Bx_35 := Bx_34.keep k35; have Bf_35 := Bf_34.keep k35; have Bg_35 := Bg_34.keep k35; have Bc_35 := Bc_34.keep k35; have Bd_35 := Bd_34.keep k35; have Bk_35 := Bk_34.keep k35; have Bm_35 := Bm_34.keep k35; have Bp_35 := Bp_34.keep k35; have Bq_35 := Bq_34.keep k35; have Bh_35 := Bh_34.keep k35; have Bi_35 := Bi_34.keep k35; have Hw35 := bq_trans Hw34 k35; clear k35 Bw_34 Bv_34 Bx_34 Bf_34 Bg_34 Bc_34 Bd_34 Bk_34 Bm_34 Bp_34 Bq_34 Bh_34 Bi_34 Hw34)
    | (refine wl_alloc 30 _ zero30 rfl rfl ?_; intro W36 be Be_36 l36 k36; have ge : w.heap.size ≤ be := Nat.le_trans Hw35.size l36; have nwe : bw ≠ be := Nat.ne_of_lt (Nat.lt_of_lt_of_le Bw_35.lt l36); have nve : bv ≠ be := Nat.ne_of_lt (Nat.lt_of_lt_of_le Bv_35.lt l36); have nxe : bx ≠ be := Nat.ne_of_lt (Nat.lt_of_lt_of_le Bx_35.lt l36); have nfe : bf ≠ be := Nat.ne_of_lt (Nat.lt_of_lt_of_le Bf_35.lt l36); have nge : bg ≠ be := Nat.ne_of_lt (Nat.lt_of_lt_of_le Bg_35.lt l36); have nce : bc ≠ be := Nat.ne_of_lt (Nat.lt_of_lt_of_le Bc_35.lt l36); have nde : bd ≠ be := Nat.ne_of_lt (Nat.lt_of_lt_of_le Bd_35.lt l36); have nke : bk ≠ be := Nat.ne_of_lt (Nat.lt_of_lt_of_le Bk_35.lt l36); have nme : bm ≠ be := Nat.ne_of_lt (Nat.lt_of_lt_of_le Bm_35.lt l36); have npe : bp ≠ be := Nat.ne_of_lt (Nat.lt_of_lt_of_le Bp_35.lt l36); have nqe : bq ≠ be := Nat.ne_of_lt (Nat.lt_of_lt_of_le Bq_35.lt l36); have nhe : bh ≠ be := Nat.ne_of_lt (Nat.lt_of_lt_of_le Bh_35.lt l36); have nie : bi ≠ be := Nat.ne_of_lt (Nat.lt_of_lt_of_le Bi_35.lt l36); have Bw_36 := Bw_35.keep k36; have Bv_36 := Bv_35.keep k36; have Bx_36 := Bx_35.keep k36; have Bf_36 := Bf_35.keep k36; have Bg_36 := Bg_35.keep k36; have Bc_36 := Bc_35.keep k36; have Bd_36 := Bd_35.keep k36; have Bk_36 := Bk_35.keep k36; have Bm_36 := Bm_35.keep k36; have Bp_36 := Bp_35.keep k36; have Bq_36 := Bq_35.keep k36; have Bh_36 := Bh_35.keep k36; have Bi_36 := Bi_35.keep k36; have Hw36 := bq_trans Hw35 k36; clear l36 k36 Bw_35 Bv_35 Bx_35 Bf_35 Bg_35 Bc_35 Bd_35 Bk_35 Bm_35 Bp_35 Bq_35 Bh_35 Bi_35 Hw35)
    | (refine wl_alloc 62 _ zeroInP rfl rfl ?_; intro W37 bj Bj_37 l37 k37; have gj : w.heap.size ≤ bj := Nat.le_trans Hw36.size l37; have nwj : bw ≠ bj := Nat.ne_of_lt (Nat.lt_of_lt_of_le Bw_36.lt l37); have nvj : bv ≠ bj := Nat.ne_of_lt (Nat.lt_of_lt_of_le Bv_36.lt l37); have nxj : bx ≠ bj := Nat.ne_of_lt (Nat.lt_of_lt_of_le Bx_36.lt l37); have nfj : bf ≠ bj := Nat.ne_of_lt (Nat.lt_of_lt_of_le Bf_36.lt l37); have ngj : bg ≠ bj := Nat.ne_of_lt (Nat.lt_of_lt_of_le Bg_36.lt l37); have ncj : bc ≠ bj := Nat.ne_of_lt (Nat.lt_of_lt_of_le Bc_36.lt l37); have ndj : bd ≠ bj := Nat.ne_of_lt (Nat.lt_of_lt_of_le Bd_36.lt l37); have nkj : bk ≠ bj := Nat.ne_of_lt (Nat.lt_of_lt_of_le Bk_36.lt l37); have nmj : bm ≠ bj := Nat.ne_of_lt (Nat.lt_of_lt_of_le Bm_36.lt l37); have npj : bp ≠ bj := Nat.ne_of_lt (Nat.lt_of_lt_of_le Bp_36.lt l37); have nqj : bq ≠ bj := Nat.ne_of_lt (Nat.lt_of_lt_of_le Bq_36.lt l37); have nhj : bh ≠ bj := Nat.ne_of_lt (Nat.lt_of_lt_of_le Bh_36.lt l37); have nij : bi ≠ bj := Nat.ne_of_lt (Nat.lt_of_lt_of_le Bi_36.lt l37); have nej : be ≠ bj := Nat.ne_of_lt (Nat.lt_of_lt_of_le Be_36.lt l37); have Bw_37 := Bw_36.keep k37; have Bv_37 := Bv_36.keep k37; have Bx_37 := Bx_36.keep k37; have Bf_37 := Bf_36.keep k37; have Bg_37 := Bg_36.keep k37; have Bc_37 := Bc_36.keep k37; have Bd_37 := Bd_36.keep k37; have Bk_37 := Bk_36.keep k37; have Bm_37 := Bm_36.keep k37; have Bp_37 := Bp_36.keep k37; have Bq_37 := Bq_36.keep k37; have Bh_37 := Bh_36.keep k37; have Bi_37 := Bi_36.keep k37; have Be_37 := Be_36.keep k37; have Hw37 := bq_trans Hw36 k37; clear l37 k37 Bw_36 Bv_36 Bx_36 Bf_36 Bg_36 Bc_36 Bd_36 Bk_36 Bm_36 Bp_36 Bq_36 Bh_36 Bi_36 Be_36 Hw36)
    | (refine wl_store 30 8 size30 _ _ rfl rfl _ rfl _ rfl _ _ Be_37 rfl rfl (by kernel_rfl) ?_; intro W38 Be_38 T38; have Bw_38 := T38.blk Bw_37 nwe; have Bv_38 := T38.blk Bv_37 nve; have Bx_38 := T38.blk Bx_37 nxe; have Bf_38 := T38.blk Bf_37 nfe; have Bg_38 := T38.blk Bg_37 nge; have Bc_38 := T38.blk Bc_37 nce; have Bd_38 := T38.blk Bd_37 nde; have Bk_38 := T38.blk Bk_37 nke; have Bm_38 := T38.blk Bm_37 nme; have Bp_38 := T38.blk Bp_37 npe; have Bq_38 := T38.blk Bq_37 nqe; have Bh_38 := T38.blk Bh_37 nhe; have Bi_38 := T38.blk Bi_37 nie; have Bj_38 := T38.blk Bj_37 (Ne.symm nej); have Hw38 := T38.below Hw37 ge; clear T38 Bw_37 Bv_37 Bx_37 Bf_37 Bg_37 Bc_37 Bd_37 Bk_37 Bm_37 Bp_37 Bq_37 Bh_37 Bi_37 Bj_37 Be_37 Hw37)
    | (refine wl_store 62 3 sizeInP _ _ rfl rfl _ rfl _ rfl _ _ Bj_38 rfl rfl (by kernel_rfl) ?_; intro W39 Bj_39 T39; have Bw_39 := T39.blk Bw_38 nwj; have Bv_39 := T39.blk Bv_38 nvj; have Bx_39 := T39.blk Bx_38 nxj; have Bf_39 := T39.blk Bf_38 nfj; have Bg_39 := T39.blk Bg_38 ngj; have Bc_39 := T39.blk Bc_38 ncj; have Bd_39 := T39.blk Bd_38 ndj; have Bk_39 := T39.blk Bk_38 nkj; have Bm_39 := T39.blk Bm_38 nmj; have Bp_39 := T39.blk Bp_38 npj; have Bq_39 := T39.blk Bq_38 nqj; have Bh_39 := T39.blk Bh_38 nhj; have Bi_39 := T39.blk Bi_38 nij; have Be_39 := T39.blk Be_38 nej; have Hw39 := T39.below Hw38 gj; clear T39 Bw_38 Bv_38 Bx_38 Bf_38 Bg_38 Bc_38 Bd_38 Bk_38 Bm_38 Bp_38 Bq_38 Bh_38 Bi_38 Be_38 Bj_38 Hw38)
    | (refine wl_load 51 2 _ Try.underlying51 rfl size51 _ rfl rfl _ rfl _ _ Bw_39 rfl ?_)
    | (go_at_call 31; (with_reducible refine (lawin_any s a _).mono ?_); rintro e W40 ⟨rfl, k40⟩; have Bw_40 := Bw_39.keep k40; have Bv_40 := Bv_39.keep k40; have Bx_40 := Bx_39.keep k40; have Bf_40 := Bf_39.keep k40; have Bg_40 := Bg_39.keep k40; have Bc_40 := Bc_39.keep k40; have Bd_40 := Bd_39.keep k40; have Bk_40 := Bk_39.keep k40; have Bm_40 := Bm_39.keep k40; have Bp_40 := Bp_39.keep k40; have Bq_40 := Bq_39.keep k40; have Bh_40 := Bh_39.keep k40; have Bi_40 := Bi_39.keep k40; have Be_40 := Be_39.keep k40; have Bj_40 := Bj_39.keep k40; have Hw40 := bq_trans Hw39 k40; clear k40 Bw_39 Bv_39 Bx_39 Bf_39 Bg_39 Bc_39 Bd_39 Bk_39 Bm_39 Bp_39 Bq_39 Bh_39 Bi_39 Be_39 Bj_39 Hw39)
    | (go_at_call 34; (with_reducible refine (D4.out _).mono ?_); rintro e W41 ⟨rfl, k41⟩; have Bw_41 := Bw_40.keep k41; have Bv_41 := Bv_40.keep k41; have Bx_41 := Bx_40.keep k41; have Bf_41 := Bf_40.keep k41; have Bg_41 := Bg_40.keep k41; have Bc_41 := Bc_40.keep k41; have Bd_41 := Bd_40.keep k41; have Bk_41 := Bk_40.keep k41; have Bm_41 := Bm_40.keep k41; have Bp_41 := Bp_40.keep k41; have Bq_41 := Bq_40.keep k41; have Bh_41 := Bh_40.keep k41; have Bi_41 := Bi_40.keep k41; have Be_41 := Be_40.keep k41; have Bj_41 := Bj_40.keep k41; have Hw41 := bq_trans Hw40 k41; clear k41 Bw_40 Bv_40 Bx_40 Bf_40 Bg_40 Bc_40 Bd_40 Bk_40 Bm_40 Bp_40 Bq_40 Bh_40 Bi_40 Be_40 Bj_40 Hw40)
    | (refine wl_alloc 32 _ zero32 rfl rfl ?_; intro W42 bn Bn_42 l42 k42; have gn : w.heap.size ≤ bn := Nat.le_trans Hw41.size l42; have nwn : bw ≠ bn := Nat.ne_of_lt (Nat.lt_of_lt_of_le Bw_41.lt l42); have nvn : bv ≠ bn := Nat.ne_of_lt (Nat.lt_of_lt_of_le Bv_41.lt l42); have nxn : bx ≠ bn := Nat.ne_of_lt (Nat.lt_of_lt_of_le Bx_41.lt l42); have nfn : bf ≠ bn := Nat.ne_of_lt (Nat.lt_of_lt_of_le Bf_41.lt l42); have ngn : bg ≠ bn := Nat.ne_of_lt (Nat.lt_of_lt_of_le Bg_41.lt l42); have ncn : bc ≠ bn := Nat.ne_of_lt (Nat.lt_of_lt_of_le Bc_41.lt l42); have ndn : bd ≠ bn := Nat.ne_of_lt (Nat.lt_of_lt_of_le Bd_41.lt l42); have nkn : bk ≠ bn := Nat.ne_of_lt (Nat.lt_of_lt_of_le Bk_41.lt l42); have nmn : bm ≠ bn := Nat.ne_of_lt (Nat.lt_of_lt_of_le Bm_41.lt l42); have npn : bp ≠ bn := Nat.ne_of_lt (Nat.lt_of_lt_of_le Bp_41.lt l42); have nqn : bq ≠ bn := Nat.ne_of_lt (Nat.lt_of_lt_of_le Bq_41.lt l42); have nhn : bh ≠ bn := Nat.ne_of_lt (Nat.lt_of_lt_of_le Bh_41.lt l42); have nin : bi ≠ bn := Nat.ne_of_lt (Nat.lt_of_lt_of_le Bi_41.lt l42); have nen : be ≠ bn := Nat.ne_of_lt (Nat.lt_of_lt_of_le Be_41.lt l42); have njn : bj ≠ bn := Nat.ne_of_lt (Nat.lt_of_lt_of_le Bj_41.lt l42); have Bw_42 := Bw_41.keep k42; have Bv_42 := Bv_41.keep k42; have Bx_42 := Bx_41.keep k42; have Bf_42 := Bf_41.keep k42; have Bg_42 := Bg_41.keep k42; have Bc_42 := Bc_41.keep k42; have Bd_42 := Bd_41.keep k42; have Bk_42 := Bk_41.keep k42; have Bm_42 := Bm_41.keep k42; have Bp_42 := Bp_41.keep k42; have Bq_42 := Bq_41.keep k42; have Bh_42 := Bh_41.keep k42; have Bi_42 := Bi_41.keep k42; have Be_42 := Be_41.keep k42; have Bj_42 := Bj_41.keep k42; have Hw42 := bq_trans Hw41 k42; clear l42 k42 Bw_41 Bv_41 Bx_41 Bf_41 Bg_41 Bc_41 Bd_41 Bk_41 Bm_41 Bp_41 Bq_41 Bh_41 Bi_41 Be_41 Bj_41 Hw41)
    | (refine wl_alloc 62 _ zeroInP rfl rfl ?_; intro W43 bo Bo_43 l43 k43; have go : w.heap.size ≤ bo := Nat.le_trans Hw42.size l43; have nwo : bw ≠ bo := Nat.ne_of_lt (Nat.lt_of_lt_of_le Bw_42.lt l43); have nvo : bv ≠ bo := Nat.ne_of_lt (Nat.lt_of_lt_of_le Bv_42.lt l43); have nxo : bx ≠ bo := Nat.ne_of_lt (Nat.lt_of_lt_of_le Bx_42.lt l43); have nfo : bf ≠ bo := Nat.ne_of_lt (Nat.lt_of_lt_of_le Bf_42.lt l43); have ngo : bg ≠ bo := Nat.ne_of_lt (Nat.lt_of_lt_of_le Bg_42.lt l43); have nco : bc ≠ bo := Nat.ne_of_lt (Nat.lt_of_lt_of_le Bc_42.lt l43); have ndo : bd ≠ bo := Nat.ne_of_lt (Nat.lt_of_lt_of_le Bd_42.lt l43); have nko : bk ≠ bo := Nat.ne_of_lt (Nat.lt_of_lt_of_le Bk_42.lt l43); have nmo : bm ≠ bo := Nat.ne_of_lt (Nat.lt_of_lt_of_le Bm_42.lt l43); have npo : bp ≠ bo := Nat.ne_of_lt (Nat.lt_of_lt_of_le Bp_42.lt l43); have nqo : bq ≠ bo := Nat.ne_of_lt (Nat.lt_of_lt_of_le Bq_42.lt l43); have nho : bh ≠ bo := Nat.ne_of_lt (Nat.lt_of_lt_of_le Bh_42.lt l43); have nio : bi ≠ bo := Nat.ne_of_lt (Nat.lt_of_lt_of_le Bi_42.lt l43); have neo : be ≠ bo := Nat.ne_of_lt (Nat.lt_of_lt_of_le Be_42.lt l43); have njo : bj ≠ bo := Nat.ne_of_lt (Nat.lt_of_lt_of_le Bj_42.lt l43); have nno : bn ≠ bo := Nat.ne_of_lt (Nat.lt_of_lt_of_le Bn_42.lt l43); have Bw_43 := Bw_42.keep k43; have Bv_43 := Bv_42.keep k43; have Bx_43 := Bx_42.keep k43; have Bf_43 := Bf_42.keep k43; have Bg_43 := Bg_42.keep k43; have Bc_43 := Bc_42.keep k43; have Bd_43 := Bd_42.keep k43; have Bk_43 := Bk_42.keep k43; have Bm_43 := Bm_42.keep k43; have Bp_43 := Bp_42.keep k43; have Bq_43 := Bq_42.keep k43; have Bh_43 := Bh_42.keep k43; have Bi_43 := Bi_42.keep k43; have Be_43 := Be_42.keep k43; have Bj_43 := Bj_42.keep k43; have Bn_43 := Bn_42.keep k43; have Hw43 := bq_trans Hw42 k43; clear l43 k43 Bw_42 Bv_42 Bx_42 Bf_42 Bg_42 Bc_42 Bd_42 Bk_42 Bm_42 Bp_42 Bq_42 Bh_42 Bi_42 Be_42 Bj_42 Bn_42 Hw42)
    | (refine wl_store 32 4 size32 _ _ rfl rfl _ rfl _ rfl _ _ Bn_43 rfl rfl (by kernel_rfl) ?_; intro W44 Bn_44 T44; have Bw_44 := T44.blk Bw_43 nwn; have Bv_44 := T44.blk Bv_43 nvn; have Bx_44 := T44.blk Bx_43 nxn; have Bf_44 := T44.blk Bf_43 nfn; have Bg_44 := T44.blk Bg_43 ngn; have Bc_44 := T44.blk Bc_43 ncn; have Bd_44 := T44.blk Bd_43 ndn; have Bk_44 := T44.blk Bk_43 nkn; have Bm_44 := T44.blk Bm_43 nmn; have Bp_44 := T44.blk Bp_43 npn; have Bq_44 := T44.blk Bq_43 nqn; have Bh_44 := T44.blk Bh_43 nhn; have Bi_44 := T44.blk Bi_43 nin; have Be_44 := T44.blk Be_43 nen; have Bj_44 := T44.blk Bj_43 njn; have Bo_44 := T44.blk Bo_43 (Ne.symm nno); have Hw44 := T44.below Hw43 gn; clear T44 Bw_43 Bv_43 Bx_43 Bf_43 Bg_43 Bc_43 Bd_43 Bk_43 Bm_43 Bp_43 Bq_43 Bh_43 Bi_43 Be_43 Bj_43 Bo_43 Bn_43 Hw43)
    | (refine wl_store 62 3 sizeInP _ _ rfl rfl _ rfl _ rfl _ _ Bo_44 rfl rfl (by kernel_rfl) ?_; intro W45 Bo_45 T45; have Bw_45 := T45.blk Bw_44 nwo; have Bv_45 := T45.blk Bv_44 nvo; have Bx_45 := T45.blk Bx_44 nxo; have Bf_45 := T45.blk Bf_44 nfo; have Bg_45 := T45.blk Bg_44 ngo; have Bc_45 := T45.blk Bc_44 nco; have Bd_45 := T45.blk Bd_44 ndo; have Bk_45 := T45.blk Bk_44 nko; have Bm_45 := T45.blk Bm_44 nmo; have Bp_45 := T45.blk Bp_44 npo; have Bq_45 := T45.blk Bq_44 nqo; have Bh_45 := T45.blk Bh_44 nho; have Bi_45 := T45.blk Bi_44 nio; have Be_45 := T45.blk Be_44 neo; have Bj_45 := T45.blk Bj_44 njo; have Bn_45 := T45.blk Bn_44 nno; have Hw45 := T45.below Hw44 go; clear T45 Bw_44 Bv_44 Bx_44 Bf_44 Bg_44 Bc_44 Bd_44 Bk_44 Bm_44 Bp_44 Bq_44 Bh_44 Bi_44 Be_44 Bj_44 Bn_44 Bo_44 Hw44))
  have q1 := fun W => eqRect l r t b W
  have z1 := fun W => eqRdP s1 a1 W
  have q2 := fun W => eqMatrix ma mb mc md mx my W
  have z2 := fun W => eqRdP s2 a2 W
  refine Det.wp_region_det (S := fun w' => Below W45.heap.size W45 w') (by kernel_rfl) (by kernel_rfl) (bq_drew (bq_refl _)) ?_
  refine Det.det_load 25 4 _ Try.underlying25 rfl size25 _ rfl (by rfl) _ rfl _ _ (fun w hS => Bv_45.keep hS) rfl ?_
  try simp only [Act.put, List.setIfInBounds_toArray, List.set_cons_zero, List.set_cons_succ]
  refine Det.det_load 25 4 _ Try.underlying25 rfl size25 _ rfl (by rfl) _ rfl _ _ (fun w hS => Bp_45.keep hS) rfl ?_
  try simp only [Act.put, List.setIfInBounds_toArray, List.set_cons_zero, List.set_cons_succ]
  refine Det.det_take (v := ?_) (by rfl) ?_ ?_
  rotate_left
  · (intro w hSw; go_simp; try with_reducible rfl)
  try simp only [Act.put, List.setIfInBounds_toArray, List.set_cons_zero, List.set_cons_succ]
  refine Det.det_take (v := ?_) (by rfl) ?_ ?_
  rotate_left
  · (intro w hSw; go_simp; try with_reducible rfl)
  try simp only [Act.put, List.setIfInBounds_toArray, List.set_cons_zero, List.set_cons_succ]
  refine Det.det_load 51 2 _ Try.underlying51 rfl size51 _ rfl (by rfl) _ rfl _ _ (fun w hS => Bx_45.keep hS) rfl ?_
  try simp only [Act.put, List.setIfInBounds_toArray, List.set_cons_zero, List.set_cons_succ]
  refine Det.det_call (f := 31) (args := #[.agg #[.string s1, .int .i64 a1]]) (v := .agg #[.string s1, .int .i64 a1]) (by rfl) ?_ (fun w hS => (lawin_any s1 a1 w).mono fun e w' ⟨h1, h2⟩ => ⟨h1, bq_trans hS h2⟩) ?_
  · (intro w hSw; go_simp)
  try simp only [Act.put, List.setIfInBounds_toArray, List.set_cons_zero, List.set_cons_succ]
  refine Det.det_take (v := ?_) (by rfl) ?_ ?_
  rotate_left
  · (intro w hSw; go_simp; try with_reducible rfl)
  try simp only [Act.put, List.setIfInBounds_toArray, List.set_cons_zero, List.set_cons_succ]
  refine Det.det_take (v := ?_) (by rfl) ?_ ?_
  rotate_left
  · (intro w hSw; have cc := (Bq_45.keep hSw).cell 0; have cd := (Bq_45.keep hSw).cell 1; go_simp; try with_reducible rfl)
  try simp only [Act.put, List.setIfInBounds_toArray, List.set_cons_zero, List.set_cons_succ]
  refine Det.det_take (v := ?_) (by rfl) ?_ ?_
  rotate_left
  · (intro w hSw; go_simp; try with_reducible rfl)
  try simp only [Act.put, List.setIfInBounds_toArray, List.set_cons_zero, List.set_cons_succ]
  refine Det.det_take (v := ?_) (by rfl) ?_ ?_
  rotate_left
  · (intro w hSw; go_simp; try with_reducible rfl)
  try simp only [Act.put, List.setIfInBounds_toArray, List.set_cons_zero, List.set_cons_succ]
  refine Det.det_take (v := ?_) (by rfl) ?_ ?_
  rotate_left
  · (intro w hSw; go_simp; try with_reducible rfl)
  try simp only [Act.put, List.setIfInBounds_toArray, List.set_cons_zero, List.set_cons_succ]
  refine Det.det_take (v := ?_) (by rfl) ?_ ?_
  rotate_left
  · (intro w hSw; go_simp; try with_reducible rfl)
  try simp only [Act.put, List.setIfInBounds_toArray, List.set_cons_zero, List.set_cons_succ]
  refine Det.det_take (v := ?_) (by rfl) ?_ ?_
  rotate_left
  · (intro w hSw; go_simp; try with_reducible rfl)
  try simp only [Act.put, List.setIfInBounds_toArray, List.set_cons_zero, List.set_cons_succ]
  refine Det.det_take (v := ?_) (by rfl) ?_ ?_
  rotate_left
  · (intro w hSw; have cc := (Bq_45.keep hSw).cell 2; go_simp; try with_reducible rfl)
  try simp only [Act.put, List.setIfInBounds_toArray, List.set_cons_zero, List.set_cons_succ]
  refine Det.det_take (v := ?_) (by rfl) ?_ ?_
  rotate_left
  · (intro w hSw; go_simp; try with_reducible rfl)
  try simp only [Act.put, List.setIfInBounds_toArray, List.set_cons_zero, List.set_cons_succ]
  refine Det.det_take (v := ?_) (by rfl) ?_ ?_
  rotate_left
  · (intro w hSw; go_simp; try with_reducible rfl)
  try simp only [Act.put, List.setIfInBounds_toArray, List.set_cons_zero, List.set_cons_succ]
  refine Det.det_take (v := ?_) (by rfl) ?_ ?_
  rotate_left
  · (intro w hSw; go_simp; try with_reducible rfl)
  try simp only [Act.put, List.setIfInBounds_toArray, List.set_cons_zero, List.set_cons_succ]
  refine Det.det_load 27 6 _ Try.underlying27 rfl size27 _ rfl (by rfl) _ rfl _ _ (fun w hS => Bf_45.keep hS) rfl ?_
  try simp only [Act.put, List.setIfInBounds_toArray, List.set_cons_zero, List.set_cons_succ]
  refine Det.det_load 27 6 _ Try.underlying27 rfl size27 _ rfl (by rfl) _ rfl _ _ (fun w hS => Bh_45.keep hS) rfl ?_
  try simp only [Act.put, List.setIfInBounds_toArray, List.set_cons_zero, List.set_cons_succ]
  refine Det.det_take (v := ?_) (by rfl) ?_ ?_
  rotate_left
  · (intro w hSw; go_simp; try with_reducible rfl)
  try simp only [Act.put, List.setIfInBounds_toArray, List.set_cons_zero, List.set_cons_succ]
  refine Det.det_take (v := ?_) (by rfl) ?_ ?_
  rotate_left
  · (intro w hSw; go_simp; try with_reducible rfl)
  try simp only [Act.put, List.setIfInBounds_toArray, List.set_cons_zero, List.set_cons_succ]
  refine Det.det_take (v := ?_) (by rfl) ?_ ?_
  rotate_left
  · (intro w hSw; go_simp; try with_reducible rfl)
  try simp only [Act.put, List.setIfInBounds_toArray, List.set_cons_zero, List.set_cons_succ]
  refine Det.det_load 51 2 _ Try.underlying51 rfl size51 _ rfl (by rfl) _ rfl _ _ (fun w hS => Bg_45.keep hS) rfl ?_
  try simp only [Act.put, List.setIfInBounds_toArray, List.set_cons_zero, List.set_cons_succ]
  refine Det.det_call (f := 31) (args := #[.agg #[.string s2, .int .i64 a2]]) (v := .agg #[.string s2, .int .i64 a2]) (by rfl) ?_ (fun w hS => (lawin_any s2 a2 w).mono fun e w' ⟨h1, h2⟩ => ⟨h1, bq_trans hS h2⟩) ?_
  · (intro w hSw; go_simp)
  try simp only [Act.put, List.setIfInBounds_toArray, List.set_cons_zero, List.set_cons_succ]
  refine Det.det_take (v := ?_) (by rfl) ?_ ?_
  rotate_left
  · (intro w hSw; go_simp; try with_reducible rfl)
  try simp only [Act.put, List.setIfInBounds_toArray, List.set_cons_zero, List.set_cons_succ]
  refine Det.det_take (v := ?_) (by rfl) ?_ ?_
  rotate_left
  · (intro w hSw; have cc := (Bi_45.keep hSw).cell 0; have cd := (Bi_45.keep hSw).cell 1; go_simp; try with_reducible rfl)
  try simp only [Act.put, List.setIfInBounds_toArray, List.set_cons_zero, List.set_cons_succ]
  refine Det.det_take (v := ?_) (by rfl) ?_ ?_
  rotate_left
  · (intro w hSw; go_simp; try with_reducible rfl)
  try simp only [Act.put, List.setIfInBounds_toArray, List.set_cons_zero, List.set_cons_succ]
  refine Det.det_take (v := ?_) (by rfl) ?_ ?_
  rotate_left
  · (intro w hSw; go_simp; try with_reducible rfl)
  try simp only [Act.put, List.setIfInBounds_toArray, List.set_cons_zero, List.set_cons_succ]
  refine Det.det_take (v := ?_) (by rfl) ?_ ?_
  rotate_left
  · (intro w hSw; go_simp; try with_reducible rfl)
  try simp only [Act.put, List.setIfInBounds_toArray, List.set_cons_zero, List.set_cons_succ]
  refine Det.det_take (v := ?_) (by rfl) ?_ ?_
  rotate_left
  · (intro w hSw; go_simp; try with_reducible rfl)
  try simp only [Act.put, List.setIfInBounds_toArray, List.set_cons_zero, List.set_cons_succ]
  refine Det.det_take (v := ?_) (by rfl) ?_ ?_
  rotate_left
  · (intro w hSw; go_simp; try with_reducible rfl)
  try simp only [Act.put, List.setIfInBounds_toArray, List.set_cons_zero, List.set_cons_succ]
  refine Det.det_take (v := ?_) (by rfl) ?_ ?_
  rotate_left
  · (intro w hSw; have cc := (Bi_45.keep hSw).cell 2; go_simp; try with_reducible rfl)
  try simp only [Act.put, List.setIfInBounds_toArray, List.set_cons_zero, List.set_cons_succ]
  refine Det.det_take (v := ?_) (by rfl) ?_ ?_
  rotate_left
  · (intro w hSw; go_simp; try with_reducible rfl)
  try simp only [Act.put, List.setIfInBounds_toArray, List.set_cons_zero, List.set_cons_succ]
  refine Det.det_take (v := ?_) (by rfl) ?_ ?_
  rotate_left
  · (intro w hSw; go_simp; try with_reducible rfl)
  try simp only [Act.put, List.setIfInBounds_toArray, List.set_cons_zero, List.set_cons_succ]
  refine Det.det_nil (fun W46 k46 => ?_)
  have Bw_46 := Bw_45.keep k46
  have Bv_46 := Bv_45.keep k46
  have Bx_46 := Bx_45.keep k46
  have Bf_46 := Bf_45.keep k46
  have Bg_46 := Bg_45.keep k46
  have Bc_46 := Bc_45.keep k46
  have Bd_46 := Bd_45.keep k46
  have Bk_46 := Bk_45.keep k46
  have Bm_46 := Bm_45.keep k46
  have Bp_46 := Bp_45.keep k46
  have Bq_46 := Bq_45.keep k46
  have Bh_46 := Bh_45.keep k46
  have Bi_46 := Bi_45.keep k46
  have Be_46 := Be_45.keep k46
  have Bj_46 := Bj_45.keep k46
  have Bn_46 := Bn_45.keep k46
  have Bo_46 := Bo_45.keep k46
  have Hw46 := bq_trans Hw45 k46
  clear k46 Bw_45 Bv_45 Bx_45 Bf_45 Bg_45 Bc_45 Bd_45 Bk_45 Bm_45 Bp_45 Bq_45 Bh_45 Bi_45 Be_45 Bj_45 Bn_45 Bo_45 Hw45
  clear q1 q2 z1 z2
  go_upto_region 13 with (fail)
  have q3 := fun W => eqCx c0 c1 c2 c3 d0 d1 d2 d3 W
  have z3 := fun W => eqRdP s3 a3 W
  have q4 := fun W => eqRGBA k0 k1 k2 k3 W
  have z4 := fun W => eqRdP s4 a4 W
  refine Det.wp_region_det (S := fun w' => Below W46.heap.size W46 w') (by kernel_rfl) (by kernel_rfl) (bq_drew (bq_refl _)) ?_
  refine Det.det_load 30 8 _ Try.underlying30 rfl size30 _ rfl (by rfl) _ rfl _ _ (fun w hS => Bc_46.keep hS) rfl ?_
  try simp only [Act.put, List.setIfInBounds_toArray, List.set_cons_zero, List.set_cons_succ]
  refine Det.det_load 30 8 _ Try.underlying30 rfl size30 _ rfl (by rfl) _ rfl _ _ (fun w hS => Be_46.keep hS) rfl ?_
  try simp only [Act.put, List.setIfInBounds_toArray, List.set_cons_zero, List.set_cons_succ]
  refine Det.det_take (v := ?_) (by rfl) ?_ ?_
  rotate_left
  · (intro w hSw; go_simp; try with_reducible rfl)
  try simp only [Act.put, List.setIfInBounds_toArray, List.set_cons_zero, List.set_cons_succ]
  refine Det.det_take (v := ?_) (by rfl) ?_ ?_
  rotate_left
  · (intro w hSw; go_simp; try with_reducible rfl)
  try simp only [Act.put, List.setIfInBounds_toArray, List.set_cons_zero, List.set_cons_succ]
  refine Det.det_load 51 2 _ Try.underlying51 rfl size51 _ rfl (by rfl) _ rfl _ _ (fun w hS => Bd_46.keep hS) rfl ?_
  try simp only [Act.put, List.setIfInBounds_toArray, List.set_cons_zero, List.set_cons_succ]
  refine Det.det_call (f := 31) (args := #[.agg #[.string s3, .int .i64 a3]]) (v := .agg #[.string s3, .int .i64 a3]) (by rfl) ?_ (fun w hS => (lawin_any s3 a3 w).mono fun e w' ⟨h1, h2⟩ => ⟨h1, bq_trans hS h2⟩) ?_
  · (intro w hSw; go_simp)
  try simp only [Act.put, List.setIfInBounds_toArray, List.set_cons_zero, List.set_cons_succ]
  refine Det.det_take (v := ?_) (by rfl) ?_ ?_
  rotate_left
  · (intro w hSw; go_simp; try with_reducible rfl)
  try simp only [Act.put, List.setIfInBounds_toArray, List.set_cons_zero, List.set_cons_succ]
  refine Det.det_take (v := ?_) (by rfl) ?_ ?_
  rotate_left
  · (intro w hSw; have cc := (Bj_46.keep hSw).cell 0; have cd := (Bj_46.keep hSw).cell 1; go_simp; try with_reducible rfl)
  try simp only [Act.put, List.setIfInBounds_toArray, List.set_cons_zero, List.set_cons_succ]
  refine Det.det_take (v := ?_) (by rfl) ?_ ?_
  rotate_left
  · (intro w hSw; go_simp; try with_reducible rfl)
  try simp only [Act.put, List.setIfInBounds_toArray, List.set_cons_zero, List.set_cons_succ]
  refine Det.det_take (v := ?_) (by rfl) ?_ ?_
  rotate_left
  · (intro w hSw; go_simp; try with_reducible rfl)
  try simp only [Act.put, List.setIfInBounds_toArray, List.set_cons_zero, List.set_cons_succ]
  refine Det.det_take (v := ?_) (by rfl) ?_ ?_
  rotate_left
  · (intro w hSw; go_simp; try with_reducible rfl)
  try simp only [Act.put, List.setIfInBounds_toArray, List.set_cons_zero, List.set_cons_succ]
  refine Det.det_take (v := ?_) (by rfl) ?_ ?_
  rotate_left
  · (intro w hSw; go_simp; try with_reducible rfl)
  try simp only [Act.put, List.setIfInBounds_toArray, List.set_cons_zero, List.set_cons_succ]
  refine Det.det_take (v := ?_) (by rfl) ?_ ?_
  rotate_left
  · (intro w hSw; go_simp; try with_reducible rfl)
  try simp only [Act.put, List.setIfInBounds_toArray, List.set_cons_zero, List.set_cons_succ]
  refine Det.det_take (v := ?_) (by rfl) ?_ ?_
  rotate_left
  · (intro w hSw; have cc := (Bj_46.keep hSw).cell 2; go_simp; try with_reducible rfl)
  try simp only [Act.put, List.setIfInBounds_toArray, List.set_cons_zero, List.set_cons_succ]
  refine Det.det_take (v := ?_) (by rfl) ?_ ?_
  rotate_left
  · (intro w hSw; go_simp; try with_reducible rfl)
  try simp only [Act.put, List.setIfInBounds_toArray, List.set_cons_zero, List.set_cons_succ]
  refine Det.det_take (v := ?_) (by rfl) ?_ ?_
  rotate_left
  · (intro w hSw; go_simp; try with_reducible rfl)
  try simp only [Act.put, List.setIfInBounds_toArray, List.set_cons_zero, List.set_cons_succ]
  refine Det.det_take (v := ?_) (by rfl) ?_ ?_
  rotate_left
  · (intro w hSw; go_simp; try with_reducible rfl)
  try simp only [Act.put, List.setIfInBounds_toArray, List.set_cons_zero, List.set_cons_succ]
  refine Det.det_load 32 4 _ Try.underlying32 rfl size32 _ rfl (by rfl) _ rfl _ _ (fun w hS => Bk_46.keep hS) rfl ?_
  try simp only [Act.put, List.setIfInBounds_toArray, List.set_cons_zero, List.set_cons_succ]
  refine Det.det_load 32 4 _ Try.underlying32 rfl size32 _ rfl (by rfl) _ rfl _ _ (fun w hS => Bn_46.keep hS) rfl ?_
  try simp only [Act.put, List.setIfInBounds_toArray, List.set_cons_zero, List.set_cons_succ]
  refine Det.det_take (v := ?_) (by rfl) ?_ ?_
  rotate_left
  · (intro w hSw; go_simp; try with_reducible rfl)
  try simp only [Act.put, List.setIfInBounds_toArray, List.set_cons_zero, List.set_cons_succ]
  refine Det.det_take (v := ?_) (by rfl) ?_ ?_
  rotate_left
  · (intro w hSw; go_simp; try with_reducible rfl)
  try simp only [Act.put, List.setIfInBounds_toArray, List.set_cons_zero, List.set_cons_succ]
  refine Det.det_take (v := ?_) (by rfl) ?_ ?_
  rotate_left
  · (intro w hSw; go_simp; try with_reducible rfl)
  try simp only [Act.put, List.setIfInBounds_toArray, List.set_cons_zero, List.set_cons_succ]
  refine Det.det_load 51 2 _ Try.underlying51 rfl size51 _ rfl (by rfl) _ rfl _ _ (fun w hS => Bm_46.keep hS) rfl ?_
  try simp only [Act.put, List.setIfInBounds_toArray, List.set_cons_zero, List.set_cons_succ]
  refine Det.det_call (f := 31) (args := #[.agg #[.string s4, .int .i64 a4]]) (v := .agg #[.string s4, .int .i64 a4]) (by rfl) ?_ (fun w hS => (lawin_any s4 a4 w).mono fun e w' ⟨h1, h2⟩ => ⟨h1, bq_trans hS h2⟩) ?_
  · (intro w hSw; go_simp)
  try simp only [Act.put, List.setIfInBounds_toArray, List.set_cons_zero, List.set_cons_succ]
  refine Det.det_take (v := ?_) (by rfl) ?_ ?_
  rotate_left
  · (intro w hSw; go_simp; try with_reducible rfl)
  try simp only [Act.put, List.setIfInBounds_toArray, List.set_cons_zero, List.set_cons_succ]
  refine Det.det_take (v := ?_) (by rfl) ?_ ?_
  rotate_left
  · (intro w hSw; have cc := (Bo_46.keep hSw).cell 0; have cd := (Bo_46.keep hSw).cell 1; go_simp; try with_reducible rfl)
  try simp only [Act.put, List.setIfInBounds_toArray, List.set_cons_zero, List.set_cons_succ]
  refine Det.det_take (v := ?_) (by rfl) ?_ ?_
  rotate_left
  · (intro w hSw; go_simp; try with_reducible rfl)
  try simp only [Act.put, List.setIfInBounds_toArray, List.set_cons_zero, List.set_cons_succ]
  refine Det.det_take (v := ?_) (by rfl) ?_ ?_
  rotate_left
  · (intro w hSw; go_simp; try with_reducible rfl)
  try simp only [Act.put, List.setIfInBounds_toArray, List.set_cons_zero, List.set_cons_succ]
  refine Det.det_take (v := ?_) (by rfl) ?_ ?_
  rotate_left
  · (intro w hSw; go_simp; try with_reducible rfl)
  try simp only [Act.put, List.setIfInBounds_toArray, List.set_cons_zero, List.set_cons_succ]
  refine Det.det_take (v := ?_) (by rfl) ?_ ?_
  rotate_left
  · (intro w hSw; go_simp; try with_reducible rfl)
  try simp only [Act.put, List.setIfInBounds_toArray, List.set_cons_zero, List.set_cons_succ]
  refine Det.det_take (v := ?_) (by rfl) ?_ ?_
  rotate_left
  · (intro w hSw; go_simp; try with_reducible rfl)
  try simp only [Act.put, List.setIfInBounds_toArray, List.set_cons_zero, List.set_cons_succ]
  refine Det.det_take (v := ?_) (by rfl) ?_ ?_
  rotate_left
  · (intro w hSw; have cc := (Bo_46.keep hSw).cell 2; go_simp; try with_reducible rfl)
  try simp only [Act.put, List.setIfInBounds_toArray, List.set_cons_zero, List.set_cons_succ]
  refine Det.det_take (v := ?_) (by rfl) ?_ ?_
  rotate_left
  · (intro w hSw; go_simp; try with_reducible rfl)
  try simp only [Act.put, List.setIfInBounds_toArray, List.set_cons_zero, List.set_cons_succ]
  refine Det.det_take (v := ?_) (by rfl) ?_ ?_
  rotate_left
  · (intro w hSw; go_simp; try with_reducible rfl)
  try simp only [Act.put, List.setIfInBounds_toArray, List.set_cons_zero, List.set_cons_succ]
  refine Det.det_take (v := ?_) (by rfl) ?_ ?_
  rotate_left
  · (intro w hSw; go_simp; try with_reducible rfl)
  try simp only [Act.put, List.setIfInBounds_toArray, List.set_cons_zero, List.set_cons_succ]
  refine Det.det_call (f := 8) (args := #[]) (v := .bool true) (by rfl) ?_ (fun w hS => (awake_any w).mono fun e w' ⟨h1, h2⟩ => ⟨h1, bq_trans hS h2⟩) ?_
  · (intro w hSw; go_simp)
  try simp only [Act.put, List.setIfInBounds_toArray, List.set_cons_zero, List.set_cons_succ]
  refine Det.det_take (v := ?_) (by rfl) ?_ ?_
  rotate_left
  · (intro w hSw; go_simp; try with_reducible rfl)
  try simp only [Act.put, List.setIfInBounds_toArray, List.set_cons_zero, List.set_cons_succ]
  refine Det.det_take (v := ?_) (by rfl) ?_ ?_
  rotate_left
  · (intro w hSw; go_simp; try with_reducible rfl)
  try simp only [Act.put, List.setIfInBounds_toArray, List.set_cons_zero, List.set_cons_succ]
  refine Det.det_nil (fun W47 k47 => ?_)
  have Bw_47 := Bw_46.keep k47
  have Bv_47 := Bv_46.keep k47
  have Bx_47 := Bx_46.keep k47
  have Bf_47 := Bf_46.keep k47
  have Bg_47 := Bg_46.keep k47
  have Bc_47 := Bc_46.keep k47
  have Bd_47 := Bd_46.keep k47
  have Bk_47 := Bk_46.keep k47
  have Bm_47 := Bm_46.keep k47
  have Bp_47 := Bp_46.keep k47
  have Bq_47 := Bq_46.keep k47
  have Bh_47 := Bh_46.keep k47
  have Bi_47 := Bi_46.keep k47
  have Be_47 := Be_46.keep k47
  have Bj_47 := Bj_46.keep k47
  have Bn_47 := Bn_46.keep k47
  have Bo_47 := Bo_46.keep k47
  have Hw47 := bq_trans Hw46 k47
  clear k47 Bw_46 Bv_46 Bx_46 Bf_46 Bg_46 Bc_46 Bd_46 Bk_46 Bm_46 Bp_46 Bq_46 Bh_46 Bi_46 Be_46 Bj_46 Bn_46 Bo_46 Hw46
  go_wp2_with fail
  go_ret
  exact ⟨rfl, Hw47⟩
theorem fieldTakes_walk (s : ByteArray) (a : Int) (w : World) : Calls Try.prog 4 #[.agg #[.string s, .int .i64 a]] w fun e w' => e = .returned (.bool true) ∧ Below w.heap.size w w' := by
  by_cases hs : s.size ≤ 1024
  · obtain ⟨l, r, t, b, h1⟩ := list4 _ (rectV_len (RS.begP s a))
    obtain ⟨ma, mb, mc, md, mx, my, h2⟩ := list6 _ (matV_len (RS.begP s a))
    obtain ⟨c0, c1, c2, c3, d0, d1, d2, d3, h3⟩ := list8 _ (cxV_len (RS.begP s a))
    obtain ⟨k0, k1, k2, k3, h4⟩ := list4 _ (rgV_lenP s a)
    have T1 := fun W => takerect_any s a W (by omega)
    have T2 := fun W => takematrix_any s a W (by omega)
    have T3 := fun W => takecx_any s a W (by omega)
    have T4 := fun W => takergba_any s a W (by omega)
    have D1 := fun W => rtakerect_any s a W (by omega)
    have D2 := fun W => rtakematrix_any s a W (by omega)
    have D3 := fun W => rtakecx_any s a W (by omega)
    have D4 := fun W => rtakergba_any s a W (by omega)
    rw [h1] at T1 D1
    rw [h2] at T2 D2
    rw [h3] at T3 D3
    rw [h4] at T4 D4
    exact ftakes_all l r t b ma mb mc md mx my c0 c1 c2 c3 d0 d1 d2 d3 k0 k1 k2 k3 a _ _ _ _ _ _ _ _ s _ _ _ _ w hs (Lib.hid T1) (Lib.hid D1) (Lib.hid T2) (Lib.hid D2) (Lib.hid T3) (Lib.hid D3) (Lib.hid T4) (Lib.hid D4)
  · exact ftakes_big s a w (by omega)
end Go.Proofs.Ytfaipbdkkkhacaa
