import Derived.Test.YtfaipbdkkkhacaaYN
/- Layer 7: a list that is laid into another one, cell by cell. -/
namespace Go.Proofs.Ytfaipbdkkkhacaa
open Go.RowKit
set_option linter.unusedVariables false

def mixL (g d : List Int) (k : Nat) : List Int := g.take k ++ d.drop k
theorem mixL_len (g d : List Int) (k : Nat) (hg : g.length = 4) (hd : d.length = 4) (hk : k ≤ 4) : (mixL g d k).length = 4 := by simp [mixL]; omega
theorem mixL_zero (g d : List Int) : mixL g d 0 = d := by simp [mixL]
theorem mixL_all (g d : List Int) (k : Nat) (hg : g.length = 4) (hd : d.length = 4) (hk : 4 ≤ k) : mixL g d k = g := by
  unfold mixL
  rw [List.take_of_length_le (by omega), List.drop_of_length_le (by omega), List.append_nil]
theorem iA_set (l : List Int) (i : Nat) (v : Int) : (iA l).setIfInBounds i (.int .i64 v) = iA (l.set i v) := by
  apply Array.ext'
  rw [Array.toList_setIfInBounds]
  simp [iA, List.map_set]
theorem mixL_set (g d : List Int) (k : Nat) (hg : g.length = 4) (hd : d.length = 4) (hk : k < 4) : (mixL g d k).set k (g[k]'(by omega)) = mixL g d (k + 1) := by
  match g, d, hg, hd with
  | [g0, g1, g2, g3], [d0, d1, d2, d3], _, _ =>
    have : k = 0 ∨ k = 1 ∨ k = 2 ∨ k = 3 := by omega
    rcases this with rfl | rfl | rfl | rfl <;> rfl
theorem mix_head (g d t : List Int) (k : Nat) (hg : g.length = 4) (hd : d.length = 4) (hk : k < 4) : (iA (mixL g d k ++ t)).setIfInBounds k (.int .i64 (g[k]'(by omega))) = iA (mixL g d (k + 1) ++ t) := by
  rw [iA_set, List.set_append_left _ _ (by rw [mixL_len g d k hg hd (by omega)]; exact hk), mixL_set g d k hg hd hk]
theorem mix_tail (g d t : List Int) (k : Nat) (ht : t.length = 4) (hg : g.length = 4) (hd : d.length = 4) (hk : k < 4) : (iA (t ++ mixL g d k)).setIfInBounds (4 + k) (.int .i64 (g[k]'(by omega))) = iA (t ++ mixL g d (k + 1)) := by
  rw [iA_set, List.set_append_right _ _ (by omega), show 4 + k - t.length = k by omega, mixL_set g d k hg hd hk]
theorem But.of_turned {g : Nat} {w w' : World} (h : Turned g w w') : But g g w w' := ⟨h.os, h.tape, h.output, Nat.le_of_eq h.size.symm, fun k _ hk _ => h.block k hk⟩
def MhRel (W : World) (bc : Nat) (g d t : List Int) (i : Value) (wr : World) : Prop := ∃ k : Nat, k ≤ 4 ∧ i = .int .i64 k ∧ Blk wr bc (iA (mixL g d k ++ t)) 30 ∧ But bc bc W wr
def MtRel (W : World) (bc : Nat) (g d t : List Int) (i : Value) (wr : World) : Prop := ∃ k : Nat, k ≤ 4 ∧ i = .int .i64 k ∧ Blk wr bc (iA (t ++ mixL g d k)) 30 ∧ But bc bc W wr
end Go.Proofs.Ytfaipbdkkkhacaa
/- Layer 7: the document's change is taken, a way of it. -/
namespace Go.Proofs.Ytfaipbdkkkhacaa
open Go.RowKit
set_option linter.unusedVariables false

set_option maxHeartbeats 4000000 in
theorem rtakecx_00 (s : ByteArray) (a  e0 e1 e2 e3 e4 e5 e6 e7 : Int) (x0 x1 x2 x3 z : RS) (q : Bool) (w : World)
    (HG : Hid (∀ W, Calls Try.prog 56 #[.agg #[.string s, .int .i64 a]] W fun e w' => e = .returned (.agg x0.cells) ∧ Below W.heap.size W w'))
    (P1 : Hid (∀ W, Calls Try.prog 58 #[.agg x0.cells, .int .i64 1] W fun e w' => e = .returned (.tuple #[.int .i64 0, .agg x1.cells]) ∧ Below W.heap.size W w'))
    (P2 : Hid (∀ W, Calls Try.prog 58 #[.agg x1.cells, .int .i64 1] W fun e w' => e = .returned (.tuple #[.int .i64 0, .agg x2.cells]) ∧ Below W.heap.size W w'))
    (HS : Hid (∀ W, Calls Try.prog 55 #[.agg x2.cells, .int .i64 4, .int .i64 0] W fun e w' => ∃ g, e = .returned (.tuple #[.slice (some ⟨g, 0, none⟩) 0 0, .agg x3.cells]) ∧ Blk w' g (iA (([] : List Int))) 3 ∧ W.heap.size ≤ g ∧ Below W.heap.size W w'))
    (HR : Hid (∀ W, Calls Try.prog 15 #[.agg #[.int .i64 256, .int .i64 256, .int .i64 256, .int .i64 256, .int .i64 0, .int .i64 0, .int .i64 0, .int .i64 0]] W fun e w' => e = .returned (.bool q) ∧ Below W.heap.size W w'))
    (HD : Hid (∀ W, Calls Try.prog 57 #[.agg #[.string x3.s, .int .i64 x3.a, .int .i64 x3.e], .bool q] W fun e w' => e = .returned (.agg #[.string z.s, .int .i64 z.a, .int .i64 z.e]) ∧ Below W.heap.size W w'))
    (E0 : Hid ((z.e != 0) = true → [e0, e1, e2, e3, e4, e5, e6, e7] = [0, 0, 0, 0, 0, 0, 0, 0])) (E1 : Hid ((z.e != 0) = false → [e0, e1, e2, e3, e4, e5, e6, e7] = [256, 256, 256, 256, 0, 0, 0, 0]))
    : Calls Try.prog 33 #[.agg #[.string s, .int .i64 a]] w fun e w' => e = .returned (.tuple #[.agg (iA [e0, e1, e2, e3, e4, e5, e6, e7]), .agg z.cells]) ∧ Below w.heap.size w w' := by
  go_enter Try.func33, Try.ntmps33
  go_wp2_with (first
    | (refine wl_box 60 _ _ rfl rfl (show _ = Value.agg #[.string s, .int .i64 a] from rfl) ?_; intro W1 br Br_1 l1 k1; have gr : w.heap.size ≤ br := l1; have Hw1 := k1; clear l1 k1)
    | (refine wl_alloc 30 _ zero30e rfl rfl ?_; intro W2 ba Ba_2 l2 k2; have ga : w.heap.size ≤ ba := Nat.le_trans Hw1.size l2; have nra : br ≠ ba := Nat.ne_of_lt (Nat.lt_of_lt_of_le Br_1.lt l2); have Br_2 := Br_1.keep k2; have Hw2 := bq_trans Hw1 k2; clear l2 k2 Br_1 Hw1)
    | (refine wl_alloc 62 _ zero62 rfl rfl ?_; intro W3 bo Bo_3 l3 k3; have go : w.heap.size ≤ bo := Nat.le_trans Hw2.size l3; have nro : br ≠ bo := Nat.ne_of_lt (Nat.lt_of_lt_of_le Br_2.lt l3); have nao : ba ≠ bo := Nat.ne_of_lt (Nat.lt_of_lt_of_le Ba_2.lt l3); have Br_3 := Br_2.keep k3; have Ba_3 := Ba_2.keep k3; have Hw3 := bq_trans Hw2 k3; clear l3 k3 Br_2 Ba_2 Hw2)
    | (refine wl_alloc 30 _ zero30e rfl rfl ?_; intro W4 bc Bc_4 l4 k4; have gc : w.heap.size ≤ bc := Nat.le_trans Hw3.size l4; have nrc : br ≠ bc := Nat.ne_of_lt (Nat.lt_of_lt_of_le Br_3.lt l4); have nac : ba ≠ bc := Nat.ne_of_lt (Nat.lt_of_lt_of_le Ba_3.lt l4); have noc : bo ≠ bc := Nat.ne_of_lt (Nat.lt_of_lt_of_le Bo_3.lt l4); have Br_4 := Br_3.keep k4; have Ba_4 := Ba_3.keep k4; have Bo_4 := Bo_3.keep k4; have Hw4 := bq_trans Hw3 k4; clear l4 k4 Br_3 Ba_3 Bo_3 Hw3)
    | (refine wl_store 30 8 size30e _ _ rfl rfl _ rfl (iA [256, 256, 256, 256, 0, 0, 0, 0]) rfl _ _ Bc_4 rfl rfl (by kernel_rfl) ?_; intro W5 Bc_5 T5; have Br_5 := T5.blk Br_4 nrc; have Ba_5 := T5.blk Ba_4 nac; have Bo_5 := T5.blk Bo_4 noc; have Hw5 := T5.below Hw4 gc; clear T5 Br_4 Ba_4 Bo_4 Bc_4 Hw4)
    | (refine wl_load 60 2 _ Try.underlying60 rfl size60 _ rfl rfl _ rfl _ _ Br_5 rfl ?_)
    | (go_at_call 56; (with_reducible refine (HG.out _).mono ?_); rintro e W6 ⟨rfl, k6⟩; have Br_6 := Br_5.keep k6; have Ba_6 := Ba_5.keep k6; have Bo_6 := Bo_5.keep k6; have Bc_6 := Bc_5.keep k6; have Hw6 := bq_trans Hw5 k6; clear k6 Br_5 Ba_5 Bo_5 Bc_5 Hw5)
    | (go_at_call 58; (with_reducible refine (P1.out _).mono ?_); rintro e W7 ⟨rfl, k7⟩; have Br_7 := Br_6.keep k7; have Ba_7 := Ba_6.keep k7; have Bo_7 := Bo_6.keep k7; have Bc_7 := Bc_6.keep k7; have Hw7 := bq_trans Hw6 k7; clear k7 Br_6 Ba_6 Bo_6 Bc_6 Hw6)
    | (refine wl_alloc 62 _ zero62 rfl rfl ?_; intro W8 bu Bu_8 l8 k8; have gu : w.heap.size ≤ bu := Nat.le_trans Hw7.size l8; have nru : br ≠ bu := Nat.ne_of_lt (Nat.lt_of_lt_of_le Br_7.lt l8); have nau : ba ≠ bu := Nat.ne_of_lt (Nat.lt_of_lt_of_le Ba_7.lt l8); have nou : bo ≠ bu := Nat.ne_of_lt (Nat.lt_of_lt_of_le Bo_7.lt l8); have ncu : bc ≠ bu := Nat.ne_of_lt (Nat.lt_of_lt_of_le Bc_7.lt l8); have Br_8 := Br_7.keep k8; have Ba_8 := Ba_7.keep k8; have Bo_8 := Bo_7.keep k8; have Bc_8 := Bc_7.keep k8; have Hw8 := bq_trans Hw7 k8; clear l8 k8 Br_7 Ba_7 Bo_7 Bc_7 Hw7)
    | (refine wl_store 62 3 size62 _ _ rfl rfl _ rfl _ rfl _ _ Bu_8 rfl rfl (by kernel_rfl) ?_; intro W9 Bu_9 T9; have Br_9 := T9.blk Br_8 nru; have Ba_9 := T9.blk Ba_8 nau; have Bo_9 := T9.blk Bo_8 nou; have Bc_9 := T9.blk Bc_8 ncu; have Hw9 := T9.below Hw8 gu; clear T9 Br_8 Ba_8 Bo_8 Bc_8 Bu_8 Hw8)
    | (refine wl_load 62 3 _ Try.underlying62 rfl size62 _ rfl rfl _ rfl _ _ Bu_9 rfl ?_)
    | (go_at_call 58; (with_reducible refine (P2.out _).mono ?_); rintro e W10 ⟨rfl, k10⟩; have Br_10 := Br_9.keep k10; have Ba_10 := Ba_9.keep k10; have Bo_10 := Bo_9.keep k10; have Bc_10 := Bc_9.keep k10; have Bu_10 := Bu_9.keep k10; have Hw10 := bq_trans Hw9 k10; clear k10 Br_9 Ba_9 Bo_9 Bc_9 Bu_9 Hw9)
    | (refine wl_alloc 62 _ zero62 rfl rfl ?_; intro W11 bv Bv_11 l11 k11; have gv : w.heap.size ≤ bv := Nat.le_trans Hw10.size l11; have nrv : br ≠ bv := Nat.ne_of_lt (Nat.lt_of_lt_of_le Br_10.lt l11); have nav : ba ≠ bv := Nat.ne_of_lt (Nat.lt_of_lt_of_le Ba_10.lt l11); have nov : bo ≠ bv := Nat.ne_of_lt (Nat.lt_of_lt_of_le Bo_10.lt l11); have ncv : bc ≠ bv := Nat.ne_of_lt (Nat.lt_of_lt_of_le Bc_10.lt l11); have nuv : bu ≠ bv := Nat.ne_of_lt (Nat.lt_of_lt_of_le Bu_10.lt l11); have Br_11 := Br_10.keep k11; have Ba_11 := Ba_10.keep k11; have Bo_11 := Bo_10.keep k11; have Bc_11 := Bc_10.keep k11; have Bu_11 := Bu_10.keep k11; have Hw11 := bq_trans Hw10 k11; clear l11 k11 Br_10 Ba_10 Bo_10 Bc_10 Bu_10 Hw10)
    | (refine wl_store 62 3 size62 _ _ rfl rfl _ rfl _ rfl _ _ Bv_11 rfl rfl (by kernel_rfl) ?_; intro W12 Bv_12 T12; have Br_12 := T12.blk Br_11 nrv; have Ba_12 := T12.blk Ba_11 nav; have Bo_12 := T12.blk Bo_11 nov; have Bc_12 := T12.blk Bc_11 ncv; have Bu_12 := T12.blk Bu_11 nuv; have Hw12 := T12.below Hw11 gv; clear T12 Br_11 Ba_11 Bo_11 Bc_11 Bu_11 Bv_11 Hw11)
    | (refine wl_load 62 3 _ Try.underlying62 rfl size62 _ rfl rfl _ rfl _ _ Bv_12 rfl ?_)
    | (go_at_call 55; (with_reducible refine (HS.out _).mono ?_); rintro e W13 ⟨bg, rfl, Bg_13, l13, k13⟩; have gg : w.heap.size ≤ bg := Nat.le_trans Hw12.size l13; have nrg : br ≠ bg := Nat.ne_of_lt (Nat.lt_of_lt_of_le Br_12.lt l13); have nag : ba ≠ bg := Nat.ne_of_lt (Nat.lt_of_lt_of_le Ba_12.lt l13); have nog : bo ≠ bg := Nat.ne_of_lt (Nat.lt_of_lt_of_le Bo_12.lt l13); have ncg : bc ≠ bg := Nat.ne_of_lt (Nat.lt_of_lt_of_le Bc_12.lt l13); have nug : bu ≠ bg := Nat.ne_of_lt (Nat.lt_of_lt_of_le Bu_12.lt l13); have nvg : bv ≠ bg := Nat.ne_of_lt (Nat.lt_of_lt_of_le Bv_12.lt l13); have Br_13 := Br_12.keep k13; have Ba_13 := Ba_12.keep k13; have Bo_13 := Bo_12.keep k13; have Bc_13 := Bc_12.keep k13; have Bu_13 := Bu_12.keep k13; have Bv_13 := Bv_12.keep k13; have Hw13 := bq_trans Hw12 k13; clear l13 k13 Br_12 Ba_12 Bo_12 Bc_12 Bu_12 Bv_12 Hw12)
    | (refine wl_alloc 62 _ zero62 rfl rfl ?_; intro W14 bx Bx_14 l14 k14; have gx : w.heap.size ≤ bx := Nat.le_trans Hw13.size l14; have nrx : br ≠ bx := Nat.ne_of_lt (Nat.lt_of_lt_of_le Br_13.lt l14); have nax : ba ≠ bx := Nat.ne_of_lt (Nat.lt_of_lt_of_le Ba_13.lt l14); have nox : bo ≠ bx := Nat.ne_of_lt (Nat.lt_of_lt_of_le Bo_13.lt l14); have ncx : bc ≠ bx := Nat.ne_of_lt (Nat.lt_of_lt_of_le Bc_13.lt l14); have nux : bu ≠ bx := Nat.ne_of_lt (Nat.lt_of_lt_of_le Bu_13.lt l14); have nvx : bv ≠ bx := Nat.ne_of_lt (Nat.lt_of_lt_of_le Bv_13.lt l14); have ngx : bg ≠ bx := Nat.ne_of_lt (Nat.lt_of_lt_of_le Bg_13.lt l14); have Br_14 := Br_13.keep k14; have Ba_14 := Ba_13.keep k14; have Bo_14 := Bo_13.keep k14; have Bc_14 := Bc_13.keep k14; have Bu_14 := Bu_13.keep k14; have Bv_14 := Bv_13.keep k14; have Bg_14 := Bg_13.keep k14; have Hw14 := bq_trans Hw13 k14; clear l14 k14 Br_13 Ba_13 Bo_13 Bc_13 Bu_13 Bv_13 Bg_13 Hw13)
    | (refine wl_store 62 3 size62 _ _ rfl rfl _ rfl _ rfl _ _ Bx_14 rfl rfl (by kernel_rfl) ?_; intro W15 Bx_15 T15; have Br_15 := T15.blk Br_14 nrx; have Ba_15 := T15.blk Ba_14 nax; have Bo_15 := T15.blk Bo_14 nox; have Bc_15 := T15.blk Bc_14 ncx; have Bu_15 := T15.blk Bu_14 nux; have Bv_15 := T15.blk Bv_14 nvx; have Bg_15 := T15.blk Bg_14 ngx; have Hw15 := T15.below Hw14 gx; clear T15 Br_14 Ba_14 Bo_14 Bc_14 Bu_14 Bv_14 Bg_14 Bx_14 Hw14))
  go_loopw [11] (fun i wq => .int .i64 0 = i ∧ W15 = wq) (fun _ _ => 0)
  case atStart => exact ⟨rfl, rfl⟩
  case round =>
    obtain ⟨rfl, rfl⟩ := hrel
    go_wp2
    go_loopw [12] (fun i wq => .int .i64 0 = i ∧ W15 = wq) (fun _ _ => 0)
    case atStart => exact ⟨rfl, rfl⟩
    case round =>
      obtain ⟨rfl, rfl⟩ := hrel
      have HRb : Hid (∀ W, Below W15.heap.size W15 W → Calls Try.prog 15 #[.agg #[.int .i64 256, .int .i64 256, .int .i64 256, .int .i64 256, .int .i64 0, .int .i64 0, .int .i64 0, .int .i64 0]] W fun e w' => e = .returned (.bool q) ∧ Below W15.heap.size W15 w') := Lib.hid fun W h => (HR.out W).mono fun e w' ⟨h1, h2⟩ => ⟨h1, bq_trans h h2⟩
      have HDb : Hid (∀ W, Below W15.heap.size W15 W → Calls Try.prog 57 #[.agg #[.string x3.s, .int .i64 x3.a, .int .i64 x3.e], .bool q] W fun e w' => e = .returned (.agg #[.string z.s, .int .i64 z.a, .int .i64 z.e]) ∧ Below W15.heap.size W15 w') := Lib.hid fun W h => (HD.out W).mono fun e w' ⟨h1, h2⟩ => ⟨h1, bq_trans h h2⟩
      have BX := Lib.hid Bx_15
      have BC : Hid (Blk W15 bc #[.int .i64 256, .int .i64 256, .int .i64 256, .int .i64 256, .int .i64 0, .int .i64 0, .int .i64 0, .int .i64 0] 30) := Lib.hid Bc_15
      have BA := Lib.hid Ba_15
      have BO := Lib.hid Bo_15
      have HB := Lib.hid Hw15
      have x0c : W15.cell? ⟨bx, 0, none⟩ = some (.string x3.s) := Bx_15.cell 0
      have x1c : W15.cell? ⟨bx, 1, none⟩ = some (.int .i64 x3.a) := Bx_15.cell 1
      have x2c : W15.cell? ⟨bx, 2, none⟩ = some (.int .i64 x3.e) := Bx_15.cell 2
      have c0c : W15.cell? ⟨bc, 0, none⟩ = some (.int .i64 256) := BC.out.cell 0
      have c1c : W15.cell? ⟨bc, 1, none⟩ = some (.int .i64 256) := BC.out.cell 1
      have c2c : W15.cell? ⟨bc, 2, none⟩ = some (.int .i64 256) := BC.out.cell 2
      have c3c : W15.cell? ⟨bc, 3, none⟩ = some (.int .i64 256) := BC.out.cell 3
      have c4c : W15.cell? ⟨bc, 4, none⟩ = some (.int .i64 0) := BC.out.cell 4
      have c5c : W15.cell? ⟨bc, 5, none⟩ = some (.int .i64 0) := BC.out.cell 5
      have c6c : W15.cell? ⟨bc, 6, none⟩ = some (.int .i64 0) := BC.out.cell 6
      have c7c : W15.cell? ⟨bc, 7, none⟩ = some (.int .i64 0) := BC.out.cell 7
      have hd0 : Below W15.heap.size W15 W15.drew := bq_drew (bq_refl W15)
      clear HR HD HG P1 P2 HS Br_15 Ba_15 Bo_15 Bc_15 Bu_15 Bv_15 Bg_15 Bx_15 Hw15 
      go_wp2_with fail
      go_region_with (first
        | (go_at_call 15; refine (HRb.out _ (by first | assumption | exact hd0)).mono ?_; rintro e w9 ⟨rfl, hb9⟩; have y0 : w9.cell? ⟨bx, 0, none⟩ = some (.string x3.s) := (BX.out.keep hb9).cell 0; have y1 : w9.cell? ⟨bx, 1, none⟩ = some (.int .i64 x3.a) := (BX.out.keep hb9).cell 1; have y2 : w9.cell? ⟨bx, 2, none⟩ = some (.int .i64 x3.e) := (BX.out.keep hb9).cell 2)
        | (go_at_call 57; refine (HDb.out _ (by first | assumption | exact hd0)).mono ?_; rintro e w10 ⟨rfl, hb10⟩; have z0 : w10.cell? ⟨bx, 0, none⟩ = some (.string x3.s) := (BX.out.keep hb10).cell 0; have z1 : w10.cell? ⟨bx, 1, none⟩ = some (.int .i64 x3.a) := (BX.out.keep hb10).cell 1; have z2 : w10.cell? ⟨bx, 2, none⟩ = some (.int .i64 x3.e) := (BX.out.keep hb10).cell 2; have f0 := (BX.out.keep hb10).frozen 0; have f1 := (BX.out.keep hb10).frozen 1; have f2 := (BX.out.keep hb10).frozen 2))
      all_goals
        have BX1 : Blk (((w10.setCell ⟨bx, 0, none⟩ (.string z.s)).setCell ⟨bx, 1, none⟩ (.int .i64 z.a)).setCell ⟨bx, 2, none⟩ (.int .i64 z.e)) bx #[.string z.s, .int .i64 z.a, .int .i64 z.e] 62 := (((BX.out.keep hb10).set 0 _).set 1 _).set 2 _
        have BC1 : Blk (((w10.setCell ⟨bx, 0, none⟩ (.string z.s)).setCell ⟨bx, 1, none⟩ (.int .i64 z.a)).setCell ⟨bx, 2, none⟩ (.int .i64 z.e)) bc #[.int .i64 256, .int .i64 256, .int .i64 256, .int .i64 256, .int .i64 0, .int .i64 0, .int .i64 0, .int .i64 0] 30 := (((BC.out.keep hb10).other _ ncx).other _ ncx).other _ ncx
        have BA1 : Blk (((w10.setCell ⟨bx, 0, none⟩ (.string z.s)).setCell ⟨bx, 1, none⟩ (.int .i64 z.a)).setCell ⟨bx, 2, none⟩ (.int .i64 z.e)) ba (iA [0, 0, 0, 0, 0, 0, 0, 0]) 30 := (((BA.out.keep hb10).other _ nax).other _ nax).other _ nax
        have BO1 : Blk (((w10.setCell ⟨bx, 0, none⟩ (.string z.s)).setCell ⟨bx, 1, none⟩ (.int .i64 z.a)).setCell ⟨bx, 2, none⟩ (.int .i64 z.e)) bo #[.string ⟨#[]⟩, .int .i64 0, .int .i64 0] 62 := (((BO.out.keep hb10).other _ nox).other _ nox).other _ nox
        have HB1 : Below w.heap.size w (((w10.setCell ⟨bx, 0, none⟩ (.string z.s)).setCell ⟨bx, 1, none⟩ (.int .i64 z.a)).setCell ⟨bx, 2, none⟩ (.int .i64 z.e)) := bq_set (bq_set (bq_set (bq_trans HB.out hb10) _ gx _) _ gx _) _ gx _
        generalize ((w10.setCell ⟨bx, 0, none⟩ (.string z.s)).setCell ⟨bx, 1, none⟩ (.int .i64 z.a)).setCell ⟨bx, 2, none⟩ (.int .i64 z.e) = W11 at BX1 BC1 BA1 BO1 HB1 ⊢
        clear HRb HDb BX BC BA BO HB x0c x1c x2c c0c c1c c2c c3c c4c c5c c6c c7c hd0 hb10
        have noa : bo ≠ ba := Ne.symm nao
        have ne1 : ¬ ba = bo := nao
        have ne2 : ¬ bo = ba := noa
        have xe : W11.cell? ⟨bx, 2, none⟩ = some (.int .i64 z.e) := BX1.cell 2
        cases hz : (z.e != 0)
        · have EV := Lib.hid (E1.out hz)
          go_wp2_with fail
          have BX2 := BX1
          have BC2 := BC1
          have BA2 := BA1
          have BO2 := BO1
          have HB2 := HB1
          clear BX1 BC1 BA1 BO1 HB1
          have HC : Hid (∀ w', But ba bo W11 w' → w'.cell? ⟨bx, 0, none⟩ = some (.string z.s) ∧ w'.cell? ⟨bx, 1, none⟩ = some (.int .i64 z.a) ∧ w'.cell? ⟨bx, 2, none⟩ = some (.int .i64 z.e) ∧ w'.cell? ⟨bc, 0, none⟩ = some (.int .i64 256) ∧ w'.cell? ⟨bc, 1, none⟩ = some (.int .i64 256) ∧ w'.cell? ⟨bc, 2, none⟩ = some (.int .i64 256) ∧ w'.cell? ⟨bc, 3, none⟩ = some (.int .i64 256) ∧ w'.cell? ⟨bc, 4, none⟩ = some (.int .i64 0) ∧ w'.cell? ⟨bc, 5, none⟩ = some (.int .i64 0) ∧ w'.cell? ⟨bc, 6, none⟩ = some (.int .i64 0) ∧ w'.cell? ⟨bc, 7, none⟩ = some (.int .i64 0)) := Lib.hid fun w' hw' => ⟨(BX2.but hw' (Ne.symm nax) (Ne.symm nox)).cell 0, (BX2.but hw' (Ne.symm nax) (Ne.symm nox)).cell 1, (BX2.but hw' (Ne.symm nax) (Ne.symm nox)).cell 2, (BC2.but hw' (Ne.symm nac) (Ne.symm noc)).cell 0, (BC2.but hw' (Ne.symm nac) (Ne.symm noc)).cell 1, (BC2.but hw' (Ne.symm nac) (Ne.symm noc)).cell 2, (BC2.but hw' (Ne.symm nac) (Ne.symm noc)).cell 3, (BC2.but hw' (Ne.symm nac) (Ne.symm noc)).cell 4, (BC2.but hw' (Ne.symm nac) (Ne.symm noc)).cell 5, (BC2.but hw' (Ne.symm nac) (Ne.symm noc)).cell 6, (BC2.but hw' (Ne.symm nac) (Ne.symm noc)).cell 7⟩
          have HA := Lib.hid BA2
          have HO := Lib.hid BO2
          have HB3 := Lib.hid HB2
          have hd0 : Below W11.heap.size W11 W11.drew := bq_drew (bq_refl W11)
          have da0 : W11.cell? ⟨ba, 0, none⟩ = some (.int .i64 0) := BA2.cell 0
          have fa0 := BA2.frozen 0
          have da1 : W11.cell? ⟨ba, 1, none⟩ = some (.int .i64 0) := BA2.cell 1
          have fa1 := BA2.frozen 1
          have da2 : W11.cell? ⟨ba, 2, none⟩ = some (.int .i64 0) := BA2.cell 2
          have fa2 := BA2.frozen 2
          have da3 : W11.cell? ⟨ba, 3, none⟩ = some (.int .i64 0) := BA2.cell 3
          have fa3 := BA2.frozen 3
          have da4 : W11.cell? ⟨ba, 4, none⟩ = some (.int .i64 0) := BA2.cell 4
          have fa4 := BA2.frozen 4
          have da5 : W11.cell? ⟨ba, 5, none⟩ = some (.int .i64 0) := BA2.cell 5
          have fa5 := BA2.frozen 5
          have da6 : W11.cell? ⟨ba, 6, none⟩ = some (.int .i64 0) := BA2.cell 6
          have fa6 := BA2.frozen 6
          have da7 : W11.cell? ⟨ba, 7, none⟩ = some (.int .i64 0) := BA2.cell 7
          have fa7 := BA2.frozen 7
          have o0 : W11.cell? ⟨bo, 0, none⟩ = some (.string ⟨#[]⟩) := BO2.cell 0
          have p0 := BO2.frozen 0
          have o1 : W11.cell? ⟨bo, 1, none⟩ = some (.int .i64 0) := BO2.cell 1
          have p1 := BO2.frozen 1
          have o2 : W11.cell? ⟨bo, 2, none⟩ = some (.int .i64 0) := BO2.cell 2
          have p2 := BO2.frozen 2
          clear BX2 BC2 BA2 BO2 HB2
          go_region_held3 (fun w' => w'.cell? ⟨bx, 0, none⟩ = some (.string z.s) ∧ w'.cell? ⟨bx, 1, none⟩ = some (.int .i64 z.a) ∧ w'.cell? ⟨bx, 2, none⟩ = some (.int .i64 z.e) ∧ w'.cell? ⟨bc, 0, none⟩ = some (.int .i64 256) ∧ w'.cell? ⟨bc, 1, none⟩ = some (.int .i64 256) ∧ w'.cell? ⟨bc, 2, none⟩ = some (.int .i64 256) ∧ w'.cell? ⟨bc, 3, none⟩ = some (.int .i64 256) ∧ w'.cell? ⟨bc, 4, none⟩ = some (.int .i64 0) ∧ w'.cell? ⟨bc, 5, none⟩ = some (.int .i64 0) ∧ w'.cell? ⟨bc, 6, none⟩ = some (.int .i64 0) ∧ w'.cell? ⟨bc, 7, none⟩ = some (.int .i64 0))
            ((refine HC.out _ ?_; repeat' (first | (with_reducible refine But.setp _ _ ?_) | (with_reducible refine But.setq _ _ ?_) | (with_reducible refine But.drw ?_) | (with_reducible exact But.of (by assumption)) | (with_reducible exact But.of (bq_refl _)))))
            (fail)
          have R9 : Blk (((((((((((W11.setCell ⟨ba, 0, none⟩ (.int .i64 256)).setCell ⟨ba, 1, none⟩ (.int .i64 256)).setCell ⟨ba, 2, none⟩ (.int .i64 256)).setCell ⟨ba, 3, none⟩ (.int .i64 256)).setCell ⟨ba, 4, none⟩ (.int .i64 0)).setCell ⟨ba, 5, none⟩ (.int .i64 0)).setCell ⟨ba, 6, none⟩ (.int .i64 0)).setCell ⟨ba, 7, none⟩ (.int .i64 0)).setCell ⟨bo, 0, none⟩ (.string z.s)).setCell ⟨bo, 1, none⟩ (.int .i64 z.a)).setCell ⟨bo, 2, none⟩ (.int .i64 z.e)).drew ba (iA [256, 256, 256, 256, 0, 0, 0, 0]) 30 := by rw [← sets8]; exact (((((((((((HA.out.set 0 _).set 1 _).set 2 _).set 3 _).set 4 _).set 5 _).set 6 _).set 7 _).other _ nao).other _ nao).other _ nao).drew
          have O9 : Blk (((((((((((W11.setCell ⟨ba, 0, none⟩ (.int .i64 256)).setCell ⟨ba, 1, none⟩ (.int .i64 256)).setCell ⟨ba, 2, none⟩ (.int .i64 256)).setCell ⟨ba, 3, none⟩ (.int .i64 256)).setCell ⟨ba, 4, none⟩ (.int .i64 0)).setCell ⟨ba, 5, none⟩ (.int .i64 0)).setCell ⟨ba, 6, none⟩ (.int .i64 0)).setCell ⟨ba, 7, none⟩ (.int .i64 0)).setCell ⟨bo, 0, none⟩ (.string z.s)).setCell ⟨bo, 1, none⟩ (.int .i64 z.a)).setCell ⟨bo, 2, none⟩ (.int .i64 z.e)).drew bo #[.string z.s, .int .i64 z.a, .int .i64 z.e] 62 := (((((((((((HO.out.other _ noa).other _ noa).other _ noa).other _ noa).other _ noa).other _ noa).other _ noa).other _ noa).set 0 _).set 1 _).set 2 _).drew
          go_wp2
          exact post_cell2 Try.underlying30 rfl size30e Try.underlying62 rfl size62 Try.results33 R9 rfl O9 rfl rfl rfl rfl ⟨by rw [EV.out]; rfl, bq_drew (bq_set (bq_set (bq_set (bq_set (bq_set (bq_set (bq_set (bq_set (bq_set (bq_set (bq_set (HB3.out) _ ga _) _ ga _) _ ga _) _ ga _) _ ga _) _ ga _) _ ga _) _ ga _) _ go _) _ go _) _ go _)⟩
        · have EV := Lib.hid (E0.out hz)
          go_wp2_with (refine wl_store 30 8 size30e _ _ rfl rfl _ rfl #[.int .i64 0, .int .i64 0, .int .i64 0, .int .i64 0, .int .i64 0, .int .i64 0, .int .i64 0, .int .i64 0] rfl _ _ BC1 rfl rfl (by kernel_rfl) ?_; intro W12 BC2 T12)
          have BX2 := T12.blk BX1 (Ne.symm ncx)
          have BA2 := T12.blk BA1 nac
          have BO2 := T12.blk BO1 noc
          have HB2 := T12.below HB1 gc
          clear BX1 BC1 BA1 BO1 HB1 T12
          have HC : Hid (∀ w', But ba bo W12 w' → w'.cell? ⟨bx, 0, none⟩ = some (.string z.s) ∧ w'.cell? ⟨bx, 1, none⟩ = some (.int .i64 z.a) ∧ w'.cell? ⟨bx, 2, none⟩ = some (.int .i64 z.e) ∧ w'.cell? ⟨bc, 0, none⟩ = some (.int .i64 0) ∧ w'.cell? ⟨bc, 1, none⟩ = some (.int .i64 0) ∧ w'.cell? ⟨bc, 2, none⟩ = some (.int .i64 0) ∧ w'.cell? ⟨bc, 3, none⟩ = some (.int .i64 0) ∧ w'.cell? ⟨bc, 4, none⟩ = some (.int .i64 0) ∧ w'.cell? ⟨bc, 5, none⟩ = some (.int .i64 0) ∧ w'.cell? ⟨bc, 6, none⟩ = some (.int .i64 0) ∧ w'.cell? ⟨bc, 7, none⟩ = some (.int .i64 0)) := Lib.hid fun w' hw' => ⟨(BX2.but hw' (Ne.symm nax) (Ne.symm nox)).cell 0, (BX2.but hw' (Ne.symm nax) (Ne.symm nox)).cell 1, (BX2.but hw' (Ne.symm nax) (Ne.symm nox)).cell 2, (BC2.but hw' (Ne.symm nac) (Ne.symm noc)).cell 0, (BC2.but hw' (Ne.symm nac) (Ne.symm noc)).cell 1, (BC2.but hw' (Ne.symm nac) (Ne.symm noc)).cell 2, (BC2.but hw' (Ne.symm nac) (Ne.symm noc)).cell 3, (BC2.but hw' (Ne.symm nac) (Ne.symm noc)).cell 4, (BC2.but hw' (Ne.symm nac) (Ne.symm noc)).cell 5, (BC2.but hw' (Ne.symm nac) (Ne.symm noc)).cell 6, (BC2.but hw' (Ne.symm nac) (Ne.symm noc)).cell 7⟩
          have HA := Lib.hid BA2
          have HO := Lib.hid BO2
          have HB3 := Lib.hid HB2
          have hd0 : Below W12.heap.size W12 W12.drew := bq_drew (bq_refl W12)
          have da0 : W12.cell? ⟨ba, 0, none⟩ = some (.int .i64 0) := BA2.cell 0
          have fa0 := BA2.frozen 0
          have da1 : W12.cell? ⟨ba, 1, none⟩ = some (.int .i64 0) := BA2.cell 1
          have fa1 := BA2.frozen 1
          have da2 : W12.cell? ⟨ba, 2, none⟩ = some (.int .i64 0) := BA2.cell 2
          have fa2 := BA2.frozen 2
          have da3 : W12.cell? ⟨ba, 3, none⟩ = some (.int .i64 0) := BA2.cell 3
          have fa3 := BA2.frozen 3
          have da4 : W12.cell? ⟨ba, 4, none⟩ = some (.int .i64 0) := BA2.cell 4
          have fa4 := BA2.frozen 4
          have da5 : W12.cell? ⟨ba, 5, none⟩ = some (.int .i64 0) := BA2.cell 5
          have fa5 := BA2.frozen 5
          have da6 : W12.cell? ⟨ba, 6, none⟩ = some (.int .i64 0) := BA2.cell 6
          have fa6 := BA2.frozen 6
          have da7 : W12.cell? ⟨ba, 7, none⟩ = some (.int .i64 0) := BA2.cell 7
          have fa7 := BA2.frozen 7
          have o0 : W12.cell? ⟨bo, 0, none⟩ = some (.string ⟨#[]⟩) := BO2.cell 0
          have p0 := BO2.frozen 0
          have o1 : W12.cell? ⟨bo, 1, none⟩ = some (.int .i64 0) := BO2.cell 1
          have p1 := BO2.frozen 1
          have o2 : W12.cell? ⟨bo, 2, none⟩ = some (.int .i64 0) := BO2.cell 2
          have p2 := BO2.frozen 2
          clear BX2 BC2 BA2 BO2 HB2
          go_region_held3 (fun w' => w'.cell? ⟨bx, 0, none⟩ = some (.string z.s) ∧ w'.cell? ⟨bx, 1, none⟩ = some (.int .i64 z.a) ∧ w'.cell? ⟨bx, 2, none⟩ = some (.int .i64 z.e) ∧ w'.cell? ⟨bc, 0, none⟩ = some (.int .i64 0) ∧ w'.cell? ⟨bc, 1, none⟩ = some (.int .i64 0) ∧ w'.cell? ⟨bc, 2, none⟩ = some (.int .i64 0) ∧ w'.cell? ⟨bc, 3, none⟩ = some (.int .i64 0) ∧ w'.cell? ⟨bc, 4, none⟩ = some (.int .i64 0) ∧ w'.cell? ⟨bc, 5, none⟩ = some (.int .i64 0) ∧ w'.cell? ⟨bc, 6, none⟩ = some (.int .i64 0) ∧ w'.cell? ⟨bc, 7, none⟩ = some (.int .i64 0))
            ((refine HC.out _ ?_; repeat' (first | (with_reducible refine But.setp _ _ ?_) | (with_reducible refine But.setq _ _ ?_) | (with_reducible refine But.drw ?_) | (with_reducible exact But.of (by assumption)) | (with_reducible exact But.of (bq_refl _)))))
            (fail)
          have R9 : Blk (((((((((((W12.setCell ⟨ba, 0, none⟩ (.int .i64 0)).setCell ⟨ba, 1, none⟩ (.int .i64 0)).setCell ⟨ba, 2, none⟩ (.int .i64 0)).setCell ⟨ba, 3, none⟩ (.int .i64 0)).setCell ⟨ba, 4, none⟩ (.int .i64 0)).setCell ⟨ba, 5, none⟩ (.int .i64 0)).setCell ⟨ba, 6, none⟩ (.int .i64 0)).setCell ⟨ba, 7, none⟩ (.int .i64 0)).setCell ⟨bo, 0, none⟩ (.string z.s)).setCell ⟨bo, 1, none⟩ (.int .i64 z.a)).setCell ⟨bo, 2, none⟩ (.int .i64 z.e)).drew ba (iA [0, 0, 0, 0, 0, 0, 0, 0]) 30 := by rw [← sets8]; exact (((((((((((HA.out.set 0 _).set 1 _).set 2 _).set 3 _).set 4 _).set 5 _).set 6 _).set 7 _).other _ nao).other _ nao).other _ nao).drew
          have O9 : Blk (((((((((((W12.setCell ⟨ba, 0, none⟩ (.int .i64 0)).setCell ⟨ba, 1, none⟩ (.int .i64 0)).setCell ⟨ba, 2, none⟩ (.int .i64 0)).setCell ⟨ba, 3, none⟩ (.int .i64 0)).setCell ⟨ba, 4, none⟩ (.int .i64 0)).setCell ⟨ba, 5, none⟩ (.int .i64 0)).setCell ⟨ba, 6, none⟩ (.int .i64 0)).setCell ⟨ba, 7, none⟩ (.int .i64 0)).setCell ⟨bo, 0, none⟩ (.string z.s)).setCell ⟨bo, 1, none⟩ (.int .i64 z.a)).setCell ⟨bo, 2, none⟩ (.int .i64 z.e)).drew bo #[.string z.s, .int .i64 z.a, .int .i64 z.e] 62 := (((((((((((HO.out.other _ noa).other _ noa).other _ noa).other _ noa).other _ noa).other _ noa).other _ noa).other _ noa).set 0 _).set 1 _).set 2 _).drew
          go_wp2
          exact post_cell2 Try.underlying30 rfl size30e Try.underlying62 rfl size62 Try.results33 R9 rfl O9 rfl rfl rfl rfl ⟨by rw [EV.out]; rfl, bq_drew (bq_set (bq_set (bq_set (bq_set (bq_set (bq_set (bq_set (bq_set (bq_set (bq_set (bq_set (HB3.out) _ ga _) _ ga _) _ ga _) _ ga _) _ ga _) _ ga _) _ ga _) _ ga _) _ go _) _ go _) _ go _)⟩
end Go.Proofs.Ytfaipbdkkkhacaa
/- Layer 7: the document's change is taken, a way of it. -/
namespace Go.Proofs.Ytfaipbdkkkhacaa
open Go.RowKit
set_option linter.unusedVariables false

set_option maxHeartbeats 4000000 in
theorem rtakecx_01 (s : ByteArray) (a d0 d1 d2 d3 e0 e1 e2 e3 e4 e5 e6 e7 : Int) (x0 x1 x2 x3 z : RS) (q : Bool) (w : World)
    (HG : Hid (∀ W, Calls Try.prog 56 #[.agg #[.string s, .int .i64 a]] W fun e w' => e = .returned (.agg x0.cells) ∧ Below W.heap.size W w'))
    (P1 : Hid (∀ W, Calls Try.prog 58 #[.agg x0.cells, .int .i64 1] W fun e w' => e = .returned (.tuple #[.int .i64 1, .agg x1.cells]) ∧ Below W.heap.size W w'))
    (P2 : Hid (∀ W, Calls Try.prog 58 #[.agg x1.cells, .int .i64 1] W fun e w' => e = .returned (.tuple #[.int .i64 0, .agg x2.cells]) ∧ Below W.heap.size W w'))
    (HS : Hid (∀ W, Calls Try.prog 55 #[.agg x2.cells, .int .i64 4, .int .i64 4] W fun e w' => ∃ g, e = .returned (.tuple #[.slice (some ⟨g, 0, none⟩) 4 4, .agg x3.cells]) ∧ Blk w' g (iA ([d0, d1, d2, d3])) 3 ∧ W.heap.size ≤ g ∧ Below W.heap.size W w'))
    (HR : Hid (∀ W, Calls Try.prog 15 #[.agg #[.int .i64 256, .int .i64 256, .int .i64 256, .int .i64 256, .int .i64 d0, .int .i64 d1, .int .i64 d2, .int .i64 d3]] W fun e w' => e = .returned (.bool q) ∧ Below W.heap.size W w'))
    (HD : Hid (∀ W, Calls Try.prog 57 #[.agg #[.string x3.s, .int .i64 x3.a, .int .i64 x3.e], .bool q] W fun e w' => e = .returned (.agg #[.string z.s, .int .i64 z.a, .int .i64 z.e]) ∧ Below W.heap.size W w'))
    (E0 : Hid ((z.e != 0) = true → [e0, e1, e2, e3, e4, e5, e6, e7] = [0, 0, 0, 0, 0, 0, 0, 0])) (E1 : Hid ((z.e != 0) = false → [e0, e1, e2, e3, e4, e5, e6, e7] = [256, 256, 256, 256, d0, d1, d2, d3]))
    : Calls Try.prog 33 #[.agg #[.string s, .int .i64 a]] w fun e w' => e = .returned (.tuple #[.agg (iA [e0, e1, e2, e3, e4, e5, e6, e7]), .agg z.cells]) ∧ Below w.heap.size w w' := by
  go_enter Try.func33, Try.ntmps33
  go_wp2_with (first
    | (refine wl_box 60 _ _ rfl rfl (show _ = Value.agg #[.string s, .int .i64 a] from rfl) ?_; intro W1 br Br_1 l1 k1; have gr : w.heap.size ≤ br := l1; have Hw1 := k1; clear l1 k1)
    | (refine wl_alloc 30 _ zero30e rfl rfl ?_; intro W2 ba Ba_2 l2 k2; have ga : w.heap.size ≤ ba := Nat.le_trans Hw1.size l2; have nra : br ≠ ba := Nat.ne_of_lt (Nat.lt_of_lt_of_le Br_1.lt l2); have Br_2 := Br_1.keep k2; have Hw2 := bq_trans Hw1 k2; clear l2 k2 Br_1 Hw1)
    | (refine wl_alloc 62 _ zero62 rfl rfl ?_; intro W3 bo Bo_3 l3 k3; have go : w.heap.size ≤ bo := Nat.le_trans Hw2.size l3; have nro : br ≠ bo := Nat.ne_of_lt (Nat.lt_of_lt_of_le Br_2.lt l3); have nao : ba ≠ bo := Nat.ne_of_lt (Nat.lt_of_lt_of_le Ba_2.lt l3); have Br_3 := Br_2.keep k3; have Ba_3 := Ba_2.keep k3; have Hw3 := bq_trans Hw2 k3; clear l3 k3 Br_2 Ba_2 Hw2)
    | (refine wl_alloc 30 _ zero30e rfl rfl ?_; intro W4 bc Bc_4 l4 k4; have gc : w.heap.size ≤ bc := Nat.le_trans Hw3.size l4; have nrc : br ≠ bc := Nat.ne_of_lt (Nat.lt_of_lt_of_le Br_3.lt l4); have nac : ba ≠ bc := Nat.ne_of_lt (Nat.lt_of_lt_of_le Ba_3.lt l4); have noc : bo ≠ bc := Nat.ne_of_lt (Nat.lt_of_lt_of_le Bo_3.lt l4); have Br_4 := Br_3.keep k4; have Ba_4 := Ba_3.keep k4; have Bo_4 := Bo_3.keep k4; have Hw4 := bq_trans Hw3 k4; clear l4 k4 Br_3 Ba_3 Bo_3 Hw3)
    | (refine wl_store 30 8 size30e _ _ rfl rfl _ rfl (iA [256, 256, 256, 256, 0, 0, 0, 0]) rfl _ _ Bc_4 rfl rfl (by kernel_rfl) ?_; intro W5 Bc_5 T5; have Br_5 := T5.blk Br_4 nrc; have Ba_5 := T5.blk Ba_4 nac; have Bo_5 := T5.blk Bo_4 noc; have Hw5 := T5.below Hw4 gc; clear T5 Br_4 Ba_4 Bo_4 Bc_4 Hw4)
    | (refine wl_load 60 2 _ Try.underlying60 rfl size60 _ rfl rfl _ rfl _ _ Br_5 rfl ?_)
    | (go_at_call 56; (with_reducible refine (HG.out _).mono ?_); rintro e W6 ⟨rfl, k6⟩; have Br_6 := Br_5.keep k6; have Ba_6 := Ba_5.keep k6; have Bo_6 := Bo_5.keep k6; have Bc_6 := Bc_5.keep k6; have Hw6 := bq_trans Hw5 k6; clear k6 Br_5 Ba_5 Bo_5 Bc_5 Hw5)
    | (go_at_call 58; (with_reducible refine (P1.out _).mono ?_); rintro e W7 ⟨rfl, k7⟩; have Br_7 := Br_6.keep k7; have Ba_7 := Ba_6.keep k7; have Bo_7 := Bo_6.keep k7; have Bc_7 := Bc_6.keep k7; have Hw7 := bq_trans Hw6 k7; clear k7 Br_6 Ba_6 Bo_6 Bc_6 Hw6)
    | (refine wl_alloc 62 _ zero62 rfl rfl ?_; intro W8 bu Bu_8 l8 k8; have gu : w.heap.size ≤ bu := Nat.le_trans Hw7.size l8; have nru : br ≠ bu := Nat.ne_of_lt (Nat.lt_of_lt_of_le Br_7.lt l8); have nau : ba ≠ bu := Nat.ne_of_lt (Nat.lt_of_lt_of_le Ba_7.lt l8); have nou : bo ≠ bu := Nat.ne_of_lt (Nat.lt_of_lt_of_le Bo_7.lt l8); have ncu : bc ≠ bu := Nat.ne_of_lt (Nat.lt_of_lt_of_le Bc_7.lt l8); have Br_8 := Br_7.keep k8; have Ba_8 := Ba_7.keep k8; have Bo_8 := Bo_7.keep k8; have Bc_8 := Bc_7.keep k8; have Hw8 := bq_trans Hw7 k8; clear l8 k8 Br_7 Ba_7 Bo_7 Bc_7 Hw7)
    | (refine wl_store 62 3 size62 _ _ rfl rfl _ rfl _ rfl _ _ Bu_8 rfl rfl (by kernel_rfl) ?_; intro W9 Bu_9 T9; have Br_9 := T9.blk Br_8 nru; have Ba_9 := T9.blk Ba_8 nau; have Bo_9 := T9.blk Bo_8 nou; have Bc_9 := T9.blk Bc_8 ncu; have Hw9 := T9.below Hw8 gu; clear T9 Br_8 Ba_8 Bo_8 Bc_8 Bu_8 Hw8)
    | (refine wl_load 62 3 _ Try.underlying62 rfl size62 _ rfl rfl _ rfl _ _ Bu_9 rfl ?_)
    | (go_at_call 58; (with_reducible refine (P2.out _).mono ?_); rintro e W10 ⟨rfl, k10⟩; have Br_10 := Br_9.keep k10; have Ba_10 := Ba_9.keep k10; have Bo_10 := Bo_9.keep k10; have Bc_10 := Bc_9.keep k10; have Bu_10 := Bu_9.keep k10; have Hw10 := bq_trans Hw9 k10; clear k10 Br_9 Ba_9 Bo_9 Bc_9 Bu_9 Hw9)
    | (refine wl_alloc 62 _ zero62 rfl rfl ?_; intro W11 bv Bv_11 l11 k11; have gv : w.heap.size ≤ bv := Nat.le_trans Hw10.size l11; have nrv : br ≠ bv := Nat.ne_of_lt (Nat.lt_of_lt_of_le Br_10.lt l11); have nav : ba ≠ bv := Nat.ne_of_lt (Nat.lt_of_lt_of_le Ba_10.lt l11); have nov : bo ≠ bv := Nat.ne_of_lt (Nat.lt_of_lt_of_le Bo_10.lt l11); have ncv : bc ≠ bv := Nat.ne_of_lt (Nat.lt_of_lt_of_le Bc_10.lt l11); have nuv : bu ≠ bv := Nat.ne_of_lt (Nat.lt_of_lt_of_le Bu_10.lt l11); have Br_11 := Br_10.keep k11; have Ba_11 := Ba_10.keep k11; have Bo_11 := Bo_10.keep k11; have Bc_11 := Bc_10.keep k11; have Bu_11 := Bu_10.keep k11; have Hw11 := bq_trans Hw10 k11; clear l11 k11 Br_10 Ba_10 Bo_10 Bc_10 Bu_10 Hw10)
    | (refine wl_store 62 3 size62 _ _ rfl rfl _ rfl _ rfl _ _ Bv_11 rfl rfl (by kernel_rfl) ?_; intro W12 Bv_12 T12; have Br_12 := T12.blk Br_11 nrv; have Ba_12 := T12.blk Ba_11 nav; have Bo_12 := T12.blk Bo_11 nov; have Bc_12 := T12.blk Bc_11 ncv; have Bu_12 := T12.blk Bu_11 nuv; have Hw12 := T12.below Hw11 gv; clear T12 Br_11 Ba_11 Bo_11 Bc_11 Bu_11 Bv_11 Hw11)
    | (refine wl_load 62 3 _ Try.underlying62 rfl size62 _ rfl rfl _ rfl _ _ Bv_12 rfl ?_)
    | (go_at_call 55; (with_reducible refine (HS.out _).mono ?_); rintro e W13 ⟨bg, rfl, Bg_13, l13, k13⟩; have gg : w.heap.size ≤ bg := Nat.le_trans Hw12.size l13; have nrg : br ≠ bg := Nat.ne_of_lt (Nat.lt_of_lt_of_le Br_12.lt l13); have nag : ba ≠ bg := Nat.ne_of_lt (Nat.lt_of_lt_of_le Ba_12.lt l13); have nog : bo ≠ bg := Nat.ne_of_lt (Nat.lt_of_lt_of_le Bo_12.lt l13); have ncg : bc ≠ bg := Nat.ne_of_lt (Nat.lt_of_lt_of_le Bc_12.lt l13); have nug : bu ≠ bg := Nat.ne_of_lt (Nat.lt_of_lt_of_le Bu_12.lt l13); have nvg : bv ≠ bg := Nat.ne_of_lt (Nat.lt_of_lt_of_le Bv_12.lt l13); have Br_13 := Br_12.keep k13; have Ba_13 := Ba_12.keep k13; have Bo_13 := Bo_12.keep k13; have Bc_13 := Bc_12.keep k13; have Bu_13 := Bu_12.keep k13; have Bv_13 := Bv_12.keep k13; have Hw13 := bq_trans Hw12 k13; clear l13 k13 Br_12 Ba_12 Bo_12 Bc_12 Bu_12 Bv_12 Hw12)
    | (refine wl_alloc 62 _ zero62 rfl rfl ?_; intro W14 bx Bx_14 l14 k14; have gx : w.heap.size ≤ bx := Nat.le_trans Hw13.size l14; have nrx : br ≠ bx := Nat.ne_of_lt (Nat.lt_of_lt_of_le Br_13.lt l14); have nax : ba ≠ bx := Nat.ne_of_lt (Nat.lt_of_lt_of_le Ba_13.lt l14); have nox : bo ≠ bx := Nat.ne_of_lt (Nat.lt_of_lt_of_le Bo_13.lt l14); have ncx : bc ≠ bx := Nat.ne_of_lt (Nat.lt_of_lt_of_le Bc_13.lt l14); have nux : bu ≠ bx := Nat.ne_of_lt (Nat.lt_of_lt_of_le Bu_13.lt l14); have nvx : bv ≠ bx := Nat.ne_of_lt (Nat.lt_of_lt_of_le Bv_13.lt l14); have ngx : bg ≠ bx := Nat.ne_of_lt (Nat.lt_of_lt_of_le Bg_13.lt l14); have Br_14 := Br_13.keep k14; have Ba_14 := Ba_13.keep k14; have Bo_14 := Bo_13.keep k14; have Bc_14 := Bc_13.keep k14; have Bu_14 := Bu_13.keep k14; have Bv_14 := Bv_13.keep k14; have Bg_14 := Bg_13.keep k14; have Hw14 := bq_trans Hw13 k14; clear l14 k14 Br_13 Ba_13 Bo_13 Bc_13 Bu_13 Bv_13 Bg_13 Hw13)
    | (refine wl_store 62 3 size62 _ _ rfl rfl _ rfl _ rfl _ _ Bx_14 rfl rfl (by kernel_rfl) ?_; intro W15 Bx_15 T15; have Br_15 := T15.blk Br_14 nrx; have Ba_15 := T15.blk Ba_14 nax; have Bo_15 := T15.blk Bo_14 nox; have Bc_15 := T15.blk Bc_14 ncx; have Bu_15 := T15.blk Bu_14 nux; have Bv_15 := T15.blk Bv_14 nvx; have Bg_15 := T15.blk Bg_14 ngx; have Hw15 := T15.below Hw14 gx; clear T15 Br_14 Ba_14 Bo_14 Bc_14 Bu_14 Bv_14 Bg_14 Bx_14 Hw14))
  go_loopw [11] (fun i wq => .int .i64 0 = i ∧ W15 = wq) (fun _ _ => 0)
  case atStart => exact ⟨rfl, rfl⟩
  case round =>
    obtain ⟨rfl, rfl⟩ := hrel
    go_wp2
    have C0 : Blk W15 bc (iA ([256, 256, 256, 256] ++ mixL [d0, d1, d2, d3] [0, 0, 0, 0] 0)) 30 := Bc_15
    go_loopw [12] (fun i wq => MtRel W15 bc [d0, d1, d2, d3] [0, 0, 0, 0] [256, 256, 256, 256] i wq) (fun i _ => 4 - (intOf i).toNat)
    case atStart => exact ⟨0, by omega, rfl, C0, But.of (bq_refl _)⟩
    case round =>
      obtain ⟨k, hk, rfl, BC, hbut⟩ := hrel
      have HBt := Lib.hid hbut
      clear hbut C0
      by_cases hlt : k < 4
      · have hlk : k < [d0, d1, d2, d3].length := hlt
        have BG := Bg_15.but HBt.out (Ne.symm ncg) (Ne.symm ncg)
        have hcell : wr.cell? ⟨bg, k, none⟩ = some (.int .i64 ([d0, d1, d2, d3][k]'hlk)) := by
          rw [BG.cell, iA_at _ _ (show k < 4 by omega)]
          all_goals (rcases (show k = 0 ∨ k = 1 ∨ k = 2 ∨ k = 3 by omega) with rfl | rfl | rfl | rfl <;> rfl)
        have HM := Lib.hid (mix_tail [d0, d1, d2, d3] [0, 0, 0, 0] [256, 256, 256, 256] k rfl rfl rfl hlt)
        have hsz : (4 + k) < (iA ([256, 256, 256, 256] ++ mixL [d0, d1, d2, d3] [0, 0, 0, 0] k)).size := by rw [iA_size, List.length_append, mixL_len _ _ k rfl rfl hk]; show (4 + k) < 4 + 4; omega
        generalize [d0, d1, d2, d3][k]'hlk = zz at *
        go_wp2_with (refine wl_set 3 _ _ rfl rfl bc (4 + k) rfl (.int .i64 zz) rfl rfl size3s _ _ BC hsz ?_; intro W9 BC9 T9)
        rw [HM.out] at BC9
        have HB9 := Lib.hid (HBt.out.trans (But.of_turned T9))
        go_roundw
        case rel => exact ⟨k + 1, by omega, by go_num, BC9, HB9.out⟩
        case measure => simp [intOf]; omega
      · rw [mixL_all _ _ k rfl rfl (by omega)] at BC
        have HBu := HBt.out
        obtain ⟨WL12, rfl⟩ : ∃ W, W = wr := ⟨_, rfl⟩
        have Br_16 := Br_15.but HBu nrc nrc
        have Ba_16 := Ba_15.but HBu nac nac
        have Bo_16 := Bo_15.but HBu noc noc
        have Bu_16 := Bu_15.but HBu (Ne.symm ncu) (Ne.symm ncu)
        have Bv_16 := Bv_15.but HBu (Ne.symm ncv) (Ne.symm ncv)
        have Bg_16 := Bg_15.but HBu (Ne.symm ncg) (Ne.symm ncg)
        have Bx_16 := Bx_15.but HBu (Ne.symm ncx) (Ne.symm ncx)
        have Bc_16 := BC
        have Hw16 := HBu.below Hw15 gc gc
        clear HBt HBu BC
        have HRb : Hid (∀ W, Below WL12.heap.size WL12 W → Calls Try.prog 15 #[.agg #[.int .i64 256, .int .i64 256, .int .i64 256, .int .i64 256, .int .i64 d0, .int .i64 d1, .int .i64 d2, .int .i64 d3]] W fun e w' => e = .returned (.bool q) ∧ Below WL12.heap.size WL12 w') := Lib.hid fun W h => (HR.out W).mono fun e w' ⟨h1, h2⟩ => ⟨h1, bq_trans h h2⟩
        have HDb : Hid (∀ W, Below WL12.heap.size WL12 W → Calls Try.prog 57 #[.agg #[.string x3.s, .int .i64 x3.a, .int .i64 x3.e], .bool q] W fun e w' => e = .returned (.agg #[.string z.s, .int .i64 z.a, .int .i64 z.e]) ∧ Below WL12.heap.size WL12 w') := Lib.hid fun W h => (HD.out W).mono fun e w' ⟨h1, h2⟩ => ⟨h1, bq_trans h h2⟩
        have BX := Lib.hid Bx_16
        have BC : Hid (Blk WL12 bc #[.int .i64 256, .int .i64 256, .int .i64 256, .int .i64 256, .int .i64 d0, .int .i64 d1, .int .i64 d2, .int .i64 d3] 30) := Lib.hid Bc_16
        have BA := Lib.hid Ba_16
        have BO := Lib.hid Bo_16
        have HB := Lib.hid Hw16
        have x0c : WL12.cell? ⟨bx, 0, none⟩ = some (.string x3.s) := Bx_16.cell 0
        have x1c : WL12.cell? ⟨bx, 1, none⟩ = some (.int .i64 x3.a) := Bx_16.cell 1
        have x2c : WL12.cell? ⟨bx, 2, none⟩ = some (.int .i64 x3.e) := Bx_16.cell 2
        have c0c : WL12.cell? ⟨bc, 0, none⟩ = some (.int .i64 256) := BC.out.cell 0
        have c1c : WL12.cell? ⟨bc, 1, none⟩ = some (.int .i64 256) := BC.out.cell 1
        have c2c : WL12.cell? ⟨bc, 2, none⟩ = some (.int .i64 256) := BC.out.cell 2
        have c3c : WL12.cell? ⟨bc, 3, none⟩ = some (.int .i64 256) := BC.out.cell 3
        have c4c : WL12.cell? ⟨bc, 4, none⟩ = some (.int .i64 d0) := BC.out.cell 4
        have c5c : WL12.cell? ⟨bc, 5, none⟩ = some (.int .i64 d1) := BC.out.cell 5
        have c6c : WL12.cell? ⟨bc, 6, none⟩ = some (.int .i64 d2) := BC.out.cell 6
        have c7c : WL12.cell? ⟨bc, 7, none⟩ = some (.int .i64 d3) := BC.out.cell 7
        have hd0 : Below WL12.heap.size WL12 WL12.drew := bq_drew (bq_refl WL12)
        clear HR HD HG P1 P2 HS Br_16 Ba_16 Bo_16 Bc_16 Bu_16 Bv_16 Bg_16 Bx_16 Hw16 
        go_wp2_with fail
        go_region_with (first
          | (go_at_call 15; refine (HRb.out _ (by first | assumption | exact hd0)).mono ?_; rintro e w9 ⟨rfl, hb9⟩; have y0 : w9.cell? ⟨bx, 0, none⟩ = some (.string x3.s) := (BX.out.keep hb9).cell 0; have y1 : w9.cell? ⟨bx, 1, none⟩ = some (.int .i64 x3.a) := (BX.out.keep hb9).cell 1; have y2 : w9.cell? ⟨bx, 2, none⟩ = some (.int .i64 x3.e) := (BX.out.keep hb9).cell 2)
          | (go_at_call 57; refine (HDb.out _ (by first | assumption | exact hd0)).mono ?_; rintro e w10 ⟨rfl, hb10⟩; have z0 : w10.cell? ⟨bx, 0, none⟩ = some (.string x3.s) := (BX.out.keep hb10).cell 0; have z1 : w10.cell? ⟨bx, 1, none⟩ = some (.int .i64 x3.a) := (BX.out.keep hb10).cell 1; have z2 : w10.cell? ⟨bx, 2, none⟩ = some (.int .i64 x3.e) := (BX.out.keep hb10).cell 2; have f0 := (BX.out.keep hb10).frozen 0; have f1 := (BX.out.keep hb10).frozen 1; have f2 := (BX.out.keep hb10).frozen 2))
        all_goals
          have BX1 : Blk (((w10.setCell ⟨bx, 0, none⟩ (.string z.s)).setCell ⟨bx, 1, none⟩ (.int .i64 z.a)).setCell ⟨bx, 2, none⟩ (.int .i64 z.e)) bx #[.string z.s, .int .i64 z.a, .int .i64 z.e] 62 := (((BX.out.keep hb10).set 0 _).set 1 _).set 2 _
          have BC1 : Blk (((w10.setCell ⟨bx, 0, none⟩ (.string z.s)).setCell ⟨bx, 1, none⟩ (.int .i64 z.a)).setCell ⟨bx, 2, none⟩ (.int .i64 z.e)) bc #[.int .i64 256, .int .i64 256, .int .i64 256, .int .i64 256, .int .i64 d0, .int .i64 d1, .int .i64 d2, .int .i64 d3] 30 := (((BC.out.keep hb10).other _ ncx).other _ ncx).other _ ncx
          have BA1 : Blk (((w10.setCell ⟨bx, 0, none⟩ (.string z.s)).setCell ⟨bx, 1, none⟩ (.int .i64 z.a)).setCell ⟨bx, 2, none⟩ (.int .i64 z.e)) ba (iA [0, 0, 0, 0, 0, 0, 0, 0]) 30 := (((BA.out.keep hb10).other _ nax).other _ nax).other _ nax
          have BO1 : Blk (((w10.setCell ⟨bx, 0, none⟩ (.string z.s)).setCell ⟨bx, 1, none⟩ (.int .i64 z.a)).setCell ⟨bx, 2, none⟩ (.int .i64 z.e)) bo #[.string ⟨#[]⟩, .int .i64 0, .int .i64 0] 62 := (((BO.out.keep hb10).other _ nox).other _ nox).other _ nox
          have HB1 : Below w.heap.size w (((w10.setCell ⟨bx, 0, none⟩ (.string z.s)).setCell ⟨bx, 1, none⟩ (.int .i64 z.a)).setCell ⟨bx, 2, none⟩ (.int .i64 z.e)) := bq_set (bq_set (bq_set (bq_trans HB.out hb10) _ gx _) _ gx _) _ gx _
          generalize ((w10.setCell ⟨bx, 0, none⟩ (.string z.s)).setCell ⟨bx, 1, none⟩ (.int .i64 z.a)).setCell ⟨bx, 2, none⟩ (.int .i64 z.e) = W11 at BX1 BC1 BA1 BO1 HB1 ⊢
          clear HRb HDb BX BC BA BO HB x0c x1c x2c c0c c1c c2c c3c c4c c5c c6c c7c hd0 hb10
          have noa : bo ≠ ba := Ne.symm nao
          have ne1 : ¬ ba = bo := nao
          have ne2 : ¬ bo = ba := noa
          have xe : W11.cell? ⟨bx, 2, none⟩ = some (.int .i64 z.e) := BX1.cell 2
          cases hz : (z.e != 0)
          · have EV := Lib.hid (E1.out hz)
            go_wp2_with fail
            have BX2 := BX1
            have BC2 := BC1
            have BA2 := BA1
            have BO2 := BO1
            have HB2 := HB1
            clear BX1 BC1 BA1 BO1 HB1
            have HC : Hid (∀ w', But ba bo W11 w' → w'.cell? ⟨bx, 0, none⟩ = some (.string z.s) ∧ w'.cell? ⟨bx, 1, none⟩ = some (.int .i64 z.a) ∧ w'.cell? ⟨bx, 2, none⟩ = some (.int .i64 z.e) ∧ w'.cell? ⟨bc, 0, none⟩ = some (.int .i64 256) ∧ w'.cell? ⟨bc, 1, none⟩ = some (.int .i64 256) ∧ w'.cell? ⟨bc, 2, none⟩ = some (.int .i64 256) ∧ w'.cell? ⟨bc, 3, none⟩ = some (.int .i64 256) ∧ w'.cell? ⟨bc, 4, none⟩ = some (.int .i64 d0) ∧ w'.cell? ⟨bc, 5, none⟩ = some (.int .i64 d1) ∧ w'.cell? ⟨bc, 6, none⟩ = some (.int .i64 d2) ∧ w'.cell? ⟨bc, 7, none⟩ = some (.int .i64 d3)) := Lib.hid fun w' hw' => ⟨(BX2.but hw' (Ne.symm nax) (Ne.symm nox)).cell 0, (BX2.but hw' (Ne.symm nax) (Ne.symm nox)).cell 1, (BX2.but hw' (Ne.symm nax) (Ne.symm nox)).cell 2, (BC2.but hw' (Ne.symm nac) (Ne.symm noc)).cell 0, (BC2.but hw' (Ne.symm nac) (Ne.symm noc)).cell 1, (BC2.but hw' (Ne.symm nac) (Ne.symm noc)).cell 2, (BC2.but hw' (Ne.symm nac) (Ne.symm noc)).cell 3, (BC2.but hw' (Ne.symm nac) (Ne.symm noc)).cell 4, (BC2.but hw' (Ne.symm nac) (Ne.symm noc)).cell 5, (BC2.but hw' (Ne.symm nac) (Ne.symm noc)).cell 6, (BC2.but hw' (Ne.symm nac) (Ne.symm noc)).cell 7⟩
            have HA := Lib.hid BA2
            have HO := Lib.hid BO2
            have HB3 := Lib.hid HB2
            have hd0 : Below W11.heap.size W11 W11.drew := bq_drew (bq_refl W11)
            have da0 : W11.cell? ⟨ba, 0, none⟩ = some (.int .i64 0) := BA2.cell 0
            have fa0 := BA2.frozen 0
            have da1 : W11.cell? ⟨ba, 1, none⟩ = some (.int .i64 0) := BA2.cell 1
            have fa1 := BA2.frozen 1
            have da2 : W11.cell? ⟨ba, 2, none⟩ = some (.int .i64 0) := BA2.cell 2
            have fa2 := BA2.frozen 2
            have da3 : W11.cell? ⟨ba, 3, none⟩ = some (.int .i64 0) := BA2.cell 3
            have fa3 := BA2.frozen 3
            have da4 : W11.cell? ⟨ba, 4, none⟩ = some (.int .i64 0) := BA2.cell 4
            have fa4 := BA2.frozen 4
            have da5 : W11.cell? ⟨ba, 5, none⟩ = some (.int .i64 0) := BA2.cell 5
            have fa5 := BA2.frozen 5
            have da6 : W11.cell? ⟨ba, 6, none⟩ = some (.int .i64 0) := BA2.cell 6
            have fa6 := BA2.frozen 6
            have da7 : W11.cell? ⟨ba, 7, none⟩ = some (.int .i64 0) := BA2.cell 7
            have fa7 := BA2.frozen 7
            have o0 : W11.cell? ⟨bo, 0, none⟩ = some (.string ⟨#[]⟩) := BO2.cell 0
            have p0 := BO2.frozen 0
            have o1 : W11.cell? ⟨bo, 1, none⟩ = some (.int .i64 0) := BO2.cell 1
            have p1 := BO2.frozen 1
            have o2 : W11.cell? ⟨bo, 2, none⟩ = some (.int .i64 0) := BO2.cell 2
            have p2 := BO2.frozen 2
            clear BX2 BC2 BA2 BO2 HB2
            go_region_held3 (fun w' => w'.cell? ⟨bx, 0, none⟩ = some (.string z.s) ∧ w'.cell? ⟨bx, 1, none⟩ = some (.int .i64 z.a) ∧ w'.cell? ⟨bx, 2, none⟩ = some (.int .i64 z.e) ∧ w'.cell? ⟨bc, 0, none⟩ = some (.int .i64 256) ∧ w'.cell? ⟨bc, 1, none⟩ = some (.int .i64 256) ∧ w'.cell? ⟨bc, 2, none⟩ = some (.int .i64 256) ∧ w'.cell? ⟨bc, 3, none⟩ = some (.int .i64 256) ∧ w'.cell? ⟨bc, 4, none⟩ = some (.int .i64 d0) ∧ w'.cell? ⟨bc, 5, none⟩ = some (.int .i64 d1) ∧ w'.cell? ⟨bc, 6, none⟩ = some (.int .i64 d2) ∧ w'.cell? ⟨bc, 7, none⟩ = some (.int .i64 d3))
              ((refine HC.out _ ?_; repeat' (first | (with_reducible refine But.setp _ _ ?_) | (with_reducible refine But.setq _ _ ?_) | (with_reducible refine But.drw ?_) | (with_reducible exact But.of (by assumption)) | (with_reducible exact But.of (bq_refl _)))))
              (fail)
            have R9 : Blk (((((((((((W11.setCell ⟨ba, 0, none⟩ (.int .i64 256)).setCell ⟨ba, 1, none⟩ (.int .i64 256)).setCell ⟨ba, 2, none⟩ (.int .i64 256)).setCell ⟨ba, 3, none⟩ (.int .i64 256)).setCell ⟨ba, 4, none⟩ (.int .i64 d0)).setCell ⟨ba, 5, none⟩ (.int .i64 d1)).setCell ⟨ba, 6, none⟩ (.int .i64 d2)).setCell ⟨ba, 7, none⟩ (.int .i64 d3)).setCell ⟨bo, 0, none⟩ (.string z.s)).setCell ⟨bo, 1, none⟩ (.int .i64 z.a)).setCell ⟨bo, 2, none⟩ (.int .i64 z.e)).drew ba (iA [256, 256, 256, 256, d0, d1, d2, d3]) 30 := by rw [← sets8]; exact (((((((((((HA.out.set 0 _).set 1 _).set 2 _).set 3 _).set 4 _).set 5 _).set 6 _).set 7 _).other _ nao).other _ nao).other _ nao).drew
            have O9 : Blk (((((((((((W11.setCell ⟨ba, 0, none⟩ (.int .i64 256)).setCell ⟨ba, 1, none⟩ (.int .i64 256)).setCell ⟨ba, 2, none⟩ (.int .i64 256)).setCell ⟨ba, 3, none⟩ (.int .i64 256)).setCell ⟨ba, 4, none⟩ (.int .i64 d0)).setCell ⟨ba, 5, none⟩ (.int .i64 d1)).setCell ⟨ba, 6, none⟩ (.int .i64 d2)).setCell ⟨ba, 7, none⟩ (.int .i64 d3)).setCell ⟨bo, 0, none⟩ (.string z.s)).setCell ⟨bo, 1, none⟩ (.int .i64 z.a)).setCell ⟨bo, 2, none⟩ (.int .i64 z.e)).drew bo #[.string z.s, .int .i64 z.a, .int .i64 z.e] 62 := (((((((((((HO.out.other _ noa).other _ noa).other _ noa).other _ noa).other _ noa).other _ noa).other _ noa).other _ noa).set 0 _).set 1 _).set 2 _).drew
            go_wp2
            exact post_cell2 Try.underlying30 rfl size30e Try.underlying62 rfl size62 Try.results33 R9 rfl O9 rfl rfl rfl rfl ⟨by rw [EV.out]; rfl, bq_drew (bq_set (bq_set (bq_set (bq_set (bq_set (bq_set (bq_set (bq_set (bq_set (bq_set (bq_set (HB3.out) _ ga _) _ ga _) _ ga _) _ ga _) _ ga _) _ ga _) _ ga _) _ ga _) _ go _) _ go _) _ go _)⟩
          · have EV := Lib.hid (E0.out hz)
            go_wp2_with (refine wl_store 30 8 size30e _ _ rfl rfl _ rfl #[.int .i64 0, .int .i64 0, .int .i64 0, .int .i64 0, .int .i64 0, .int .i64 0, .int .i64 0, .int .i64 0] rfl _ _ BC1 rfl rfl (by kernel_rfl) ?_; intro W12 BC2 T12)
            have BX2 := T12.blk BX1 (Ne.symm ncx)
            have BA2 := T12.blk BA1 nac
            have BO2 := T12.blk BO1 noc
            have HB2 := T12.below HB1 gc
            clear BX1 BC1 BA1 BO1 HB1 T12
            have HC : Hid (∀ w', But ba bo W12 w' → w'.cell? ⟨bx, 0, none⟩ = some (.string z.s) ∧ w'.cell? ⟨bx, 1, none⟩ = some (.int .i64 z.a) ∧ w'.cell? ⟨bx, 2, none⟩ = some (.int .i64 z.e) ∧ w'.cell? ⟨bc, 0, none⟩ = some (.int .i64 0) ∧ w'.cell? ⟨bc, 1, none⟩ = some (.int .i64 0) ∧ w'.cell? ⟨bc, 2, none⟩ = some (.int .i64 0) ∧ w'.cell? ⟨bc, 3, none⟩ = some (.int .i64 0) ∧ w'.cell? ⟨bc, 4, none⟩ = some (.int .i64 0) ∧ w'.cell? ⟨bc, 5, none⟩ = some (.int .i64 0) ∧ w'.cell? ⟨bc, 6, none⟩ = some (.int .i64 0) ∧ w'.cell? ⟨bc, 7, none⟩ = some (.int .i64 0)) := Lib.hid fun w' hw' => ⟨(BX2.but hw' (Ne.symm nax) (Ne.symm nox)).cell 0, (BX2.but hw' (Ne.symm nax) (Ne.symm nox)).cell 1, (BX2.but hw' (Ne.symm nax) (Ne.symm nox)).cell 2, (BC2.but hw' (Ne.symm nac) (Ne.symm noc)).cell 0, (BC2.but hw' (Ne.symm nac) (Ne.symm noc)).cell 1, (BC2.but hw' (Ne.symm nac) (Ne.symm noc)).cell 2, (BC2.but hw' (Ne.symm nac) (Ne.symm noc)).cell 3, (BC2.but hw' (Ne.symm nac) (Ne.symm noc)).cell 4, (BC2.but hw' (Ne.symm nac) (Ne.symm noc)).cell 5, (BC2.but hw' (Ne.symm nac) (Ne.symm noc)).cell 6, (BC2.but hw' (Ne.symm nac) (Ne.symm noc)).cell 7⟩
            have HA := Lib.hid BA2
            have HO := Lib.hid BO2
            have HB3 := Lib.hid HB2
            have hd0 : Below W12.heap.size W12 W12.drew := bq_drew (bq_refl W12)
            have da0 : W12.cell? ⟨ba, 0, none⟩ = some (.int .i64 0) := BA2.cell 0
            have fa0 := BA2.frozen 0
            have da1 : W12.cell? ⟨ba, 1, none⟩ = some (.int .i64 0) := BA2.cell 1
            have fa1 := BA2.frozen 1
            have da2 : W12.cell? ⟨ba, 2, none⟩ = some (.int .i64 0) := BA2.cell 2
            have fa2 := BA2.frozen 2
            have da3 : W12.cell? ⟨ba, 3, none⟩ = some (.int .i64 0) := BA2.cell 3
            have fa3 := BA2.frozen 3
            have da4 : W12.cell? ⟨ba, 4, none⟩ = some (.int .i64 0) := BA2.cell 4
            have fa4 := BA2.frozen 4
            have da5 : W12.cell? ⟨ba, 5, none⟩ = some (.int .i64 0) := BA2.cell 5
            have fa5 := BA2.frozen 5
            have da6 : W12.cell? ⟨ba, 6, none⟩ = some (.int .i64 0) := BA2.cell 6
            have fa6 := BA2.frozen 6
            have da7 : W12.cell? ⟨ba, 7, none⟩ = some (.int .i64 0) := BA2.cell 7
            have fa7 := BA2.frozen 7
            have o0 : W12.cell? ⟨bo, 0, none⟩ = some (.string ⟨#[]⟩) := BO2.cell 0
            have p0 := BO2.frozen 0
            have o1 : W12.cell? ⟨bo, 1, none⟩ = some (.int .i64 0) := BO2.cell 1
            have p1 := BO2.frozen 1
            have o2 : W12.cell? ⟨bo, 2, none⟩ = some (.int .i64 0) := BO2.cell 2
            have p2 := BO2.frozen 2
            clear BX2 BC2 BA2 BO2 HB2
            go_region_held3 (fun w' => w'.cell? ⟨bx, 0, none⟩ = some (.string z.s) ∧ w'.cell? ⟨bx, 1, none⟩ = some (.int .i64 z.a) ∧ w'.cell? ⟨bx, 2, none⟩ = some (.int .i64 z.e) ∧ w'.cell? ⟨bc, 0, none⟩ = some (.int .i64 0) ∧ w'.cell? ⟨bc, 1, none⟩ = some (.int .i64 0) ∧ w'.cell? ⟨bc, 2, none⟩ = some (.int .i64 0) ∧ w'.cell? ⟨bc, 3, none⟩ = some (.int .i64 0) ∧ w'.cell? ⟨bc, 4, none⟩ = some (.int .i64 0) ∧ w'.cell? ⟨bc, 5, none⟩ = some (.int .i64 0) ∧ w'.cell? ⟨bc, 6, none⟩ = some (.int .i64 0) ∧ w'.cell? ⟨bc, 7, none⟩ = some (.int .i64 0))
              ((refine HC.out _ ?_; repeat' (first | (with_reducible refine But.setp _ _ ?_) | (with_reducible refine But.setq _ _ ?_) | (with_reducible refine But.drw ?_) | (with_reducible exact But.of (by assumption)) | (with_reducible exact But.of (bq_refl _)))))
              (fail)
            have R9 : Blk (((((((((((W12.setCell ⟨ba, 0, none⟩ (.int .i64 0)).setCell ⟨ba, 1, none⟩ (.int .i64 0)).setCell ⟨ba, 2, none⟩ (.int .i64 0)).setCell ⟨ba, 3, none⟩ (.int .i64 0)).setCell ⟨ba, 4, none⟩ (.int .i64 0)).setCell ⟨ba, 5, none⟩ (.int .i64 0)).setCell ⟨ba, 6, none⟩ (.int .i64 0)).setCell ⟨ba, 7, none⟩ (.int .i64 0)).setCell ⟨bo, 0, none⟩ (.string z.s)).setCell ⟨bo, 1, none⟩ (.int .i64 z.a)).setCell ⟨bo, 2, none⟩ (.int .i64 z.e)).drew ba (iA [0, 0, 0, 0, 0, 0, 0, 0]) 30 := by rw [← sets8]; exact (((((((((((HA.out.set 0 _).set 1 _).set 2 _).set 3 _).set 4 _).set 5 _).set 6 _).set 7 _).other _ nao).other _ nao).other _ nao).drew
            have O9 : Blk (((((((((((W12.setCell ⟨ba, 0, none⟩ (.int .i64 0)).setCell ⟨ba, 1, none⟩ (.int .i64 0)).setCell ⟨ba, 2, none⟩ (.int .i64 0)).setCell ⟨ba, 3, none⟩ (.int .i64 0)).setCell ⟨ba, 4, none⟩ (.int .i64 0)).setCell ⟨ba, 5, none⟩ (.int .i64 0)).setCell ⟨ba, 6, none⟩ (.int .i64 0)).setCell ⟨ba, 7, none⟩ (.int .i64 0)).setCell ⟨bo, 0, none⟩ (.string z.s)).setCell ⟨bo, 1, none⟩ (.int .i64 z.a)).setCell ⟨bo, 2, none⟩ (.int .i64 z.e)).drew bo #[.string z.s, .int .i64 z.a, .int .i64 z.e] 62 := (((((((((((HO.out.other _ noa).other _ noa).other _ noa).other _ noa).other _ noa).other _ noa).other _ noa).other _ noa).set 0 _).set 1 _).set 2 _).drew
            go_wp2
            exact post_cell2 Try.underlying30 rfl size30e Try.underlying62 rfl size62 Try.results33 R9 rfl O9 rfl rfl rfl rfl ⟨by rw [EV.out]; rfl, bq_drew (bq_set (bq_set (bq_set (bq_set (bq_set (bq_set (bq_set (bq_set (bq_set (bq_set (bq_set (HB3.out) _ ga _) _ ga _) _ ga _) _ ga _) _ ga _) _ ga _) _ ga _) _ ga _) _ go _) _ go _) _ go _)⟩
end Go.Proofs.Ytfaipbdkkkhacaa
