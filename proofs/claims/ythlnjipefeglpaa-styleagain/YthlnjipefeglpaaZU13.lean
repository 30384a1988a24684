import Derived.Test.YthlnjipefeglpaaZU12
import Derived.Test.YthlnjipefeglpaaZU9
import Derived.Test.YthlnjipefeglpaaZU6
import Derived.Deep.RegionHeld3
import Derived.BigRegion
namespace Go.Proofs.Ythlnjipefeglpaa
open Go.RowKit
set_option linter.unusedVariables false
set_option maxRecDepth 100000
theorem size32z : (Try.prog.info? 23).map (·.size) = some 4 := by kernel_rfl
theorem zero32 (w : World) : (zeroValue 23).run Try.prog w = .ok (.agg (iA [0, 0, 0, 0])) w := Try.zeroValue23 w
def rgV (s : ByteArray) (a : Int) : List Int := if byE s.size a 4 = 0 then (byB s a 4).data.toList.map (fun c => (c.toNat : Int)) else [0, 0, 0, 0]
set_option maxHeartbeats 1000000 in
theorem takergba_err (s t ys : ByteArray) (a ya ye : Int) (w : World) (q : (ye != 0) = true) (HP : Hid (∀ W, Calls Try.prog 76 #[.agg #[.string s, .int .i64 a], .int .i64 4] W fun e w' => e = .returned (.tuple #[.string t, .agg #[.string ys, .int .i64 ya], .int .i64 ye]) ∧ Below W.heap.size W w')) :
    Calls Try.prog 58 #[.agg #[.string s, .int .i64 a]] w fun e w' => e = .returned (.tuple #[.agg (iA [0, 0, 0, 0]), .agg #[.string ⟨#[]⟩, .int .i64 0], .int .i64 ye]) ∧ Below w.heap.size w w' := by
  go_enter Try.func58, Try.ntmps58
  go_wp2_with (first
    | (refine wl_box 46 _ _ rfl rfl (show _ = Value.agg #[.string s, .int .i64 a] from rfl) ?_; intro W1 br Br_1 l1 k1; have gr : w.heap.size ≤ br := l1; have Hw1 := k1; clear l1 k1)
    | (refine wl_alloc 23 _ zero32 rfl rfl ?_; intro W2 ba Ba_2 l2 k2; have ga : w.heap.size ≤ ba := Nat.le_trans Hw1.size l2; have nra : br ≠ ba := Nat.ne_of_lt (Nat.lt_of_lt_of_le Br_1.lt l2); have Br_2 := Br_1.keep k2; have Hw2 := bq_trans Hw1 k2; clear l2 k2 Br_1 Hw1)
    | (refine wl_alloc 46 _ zero51 rfl rfl ?_; intro W3 bo Bo_3 l3 k3; have go : w.heap.size ≤ bo := Nat.le_trans Hw2.size l3; have nro : br ≠ bo := Nat.ne_of_lt (Nat.lt_of_lt_of_le Br_2.lt l3); have nao : ba ≠ bo := Nat.ne_of_lt (Nat.lt_of_lt_of_le Ba_2.lt l3); have Br_3 := Br_2.keep k3; have Ba_3 := Ba_2.keep k3; have Hw3 := bq_trans Hw2 k3; clear l3 k3 Br_2 Ba_2 Hw2)
    | (refine wl_load 46 2 _ Try.underlying46 rfl size51 _ rfl rfl _ rfl _ _ Br_3 rfl ?_)
    | (go_at_call 76; (with_reducible refine (HP.out _).mono ?_); rintro e W4 ⟨rfl, k4⟩; have Br_4 := Br_3.keep k4; have Ba_4 := Ba_3.keep k4; have Bo_4 := Bo_3.keep k4; have Hw4 := bq_trans Hw3 k4; clear k4 Br_3 Ba_3 Bo_3 Hw3)
    | (refine wl_alloc 46 _ zero51 rfl rfl ?_; intro W5 bj Bj_5 l5 k5; have gj : w.heap.size ≤ bj := Nat.le_trans Hw4.size l5; have nrj : br ≠ bj := Nat.ne_of_lt (Nat.lt_of_lt_of_le Br_4.lt l5); have naj : ba ≠ bj := Nat.ne_of_lt (Nat.lt_of_lt_of_le Ba_4.lt l5); have noj : bo ≠ bj := Nat.ne_of_lt (Nat.lt_of_lt_of_le Bo_4.lt l5); have Br_5 := Br_4.keep k5; have Ba_5 := Ba_4.keep k5; have Bo_5 := Bo_4.keep k5; have Hw5 := bq_trans Hw4 k5; clear l5 k5 Br_4 Ba_4 Bo_4 Hw4)
    | (refine wl_store 46 2 size51 _ _ rfl rfl _ rfl _ rfl _ _ Bj_5 rfl rfl (by kernel_rfl) ?_; intro W6 Bj_6 T6; have Br_6 := T6.blk Br_5 nrj; have Ba_6 := T6.blk Ba_5 naj; have Bo_6 := T6.blk Bo_5 noj; have Hw6 := T6.below Hw5 gj; clear T6 Br_5 Ba_5 Bo_5 Bj_5 Hw5)
    | (refine wl_store 23 4 size32z _ _ rfl rfl _ rfl #[.int .i64 0, .int .i64 0, .int .i64 0, .int .i64 0] rfl _ _ Ba_6 rfl rfl (by kernel_rfl) ?_; intro W7 Ba_7 T7; have Br_7 := T7.blk Br_6 nra; have Bo_7 := T7.blk Bo_6 (Ne.symm nao); have Bj_7 := T7.blk Bj_6 (Ne.symm naj); have Hw7 := T7.below Hw6 ga; clear T7 Br_6 Bo_6 Bj_6 Ba_6 Hw6)
    | (refine wl_store 46 2 size51 _ _ rfl rfl _ rfl _ rfl _ _ Bo_7 rfl rfl (by kernel_rfl) ?_; intro W8 Bo_8 T8; have Br_8 := T8.blk Br_7 nro; have Ba_8 := T8.blk Ba_7 nao; have Bj_8 := T8.blk Bj_7 (Ne.symm noj); have Hw8 := T8.below Hw7 go; clear T8 Br_7 Ba_7 Bj_7 Bo_7 Hw7))
  exact post_cell2_tmp (v := .int .i64 ye) Try.underlying23 rfl size32z Try.underlying46 rfl size51 Try.results58 Ba_8 rfl Bo_8 rfl rfl rfl rfl rfl ⟨rfl, Hw8⟩
set_option maxHeartbeats 4000000 in
theorem takergba_ok (s t ys : ByteArray) (a ya v0 v1 v2 v3 : Int) (w : World) (b0 : 0 ≤ v0 ∧ v0 ≤ 255) (b1 : 0 ≤ v1 ∧ v1 ≤ 255) (b2 : 0 ≤ v2 ∧ v2 ≤ 255) (b3 : 0 ≤ v3 ∧ v3 ≤ 255)
    (hi0 : ∀ W : World, (Instr.index 9 (.string t) (.int .i64 0)).run Try.prog W = .ok (.int .u8 v0) W) (hi1 : ∀ W : World, (Instr.index 9 (.string t) (.int .i64 1)).run Try.prog W = .ok (.int .u8 v1) W) (hi2 : ∀ W : World, (Instr.index 9 (.string t) (.int .i64 2)).run Try.prog W = .ok (.int .u8 v2) W) (hi3 : ∀ W : World, (Instr.index 9 (.string t) (.int .i64 3)).run Try.prog W = .ok (.int .u8 v3) W) (HP : Hid (∀ W, Calls Try.prog 76 #[.agg #[.string s, .int .i64 a], .int .i64 4] W fun e w' => e = .returned (.tuple #[.string t, .agg #[.string ys, .int .i64 ya], .int .i64 0]) ∧ Below W.heap.size W w')) :
    Calls Try.prog 58 #[.agg #[.string s, .int .i64 a]] w fun e w' => e = .returned (.tuple #[.agg (iA [v0, v1, v2, v3]), .agg #[.string ys, .int .i64 ya], .int .i64 0]) ∧ Below w.heap.size w w' := by
  obtain ⟨b00, b01⟩ := b0
  obtain ⟨b10, b11⟩ := b1
  obtain ⟨b20, b21⟩ := b2
  obtain ⟨b30, b31⟩ := b3
  go_enter Try.func58, Try.ntmps58
  go_wp2_with (first
    | (refine wl_box 46 _ _ rfl rfl (show _ = Value.agg #[.string s, .int .i64 a] from rfl) ?_; intro W1 br Br_1 l1 k1; have gr : w.heap.size ≤ br := l1; have Hw1 := k1; clear l1 k1)
    | (refine wl_alloc 23 _ zero32 rfl rfl ?_; intro W2 ba Ba_2 l2 k2; have ga : w.heap.size ≤ ba := Nat.le_trans Hw1.size l2; have nra : br ≠ ba := Nat.ne_of_lt (Nat.lt_of_lt_of_le Br_1.lt l2); have Br_2 := Br_1.keep k2; have Hw2 := bq_trans Hw1 k2; clear l2 k2 Br_1 Hw1)
    | (refine wl_alloc 46 _ zero51 rfl rfl ?_; intro W3 bo Bo_3 l3 k3; have go : w.heap.size ≤ bo := Nat.le_trans Hw2.size l3; have nro : br ≠ bo := Nat.ne_of_lt (Nat.lt_of_lt_of_le Br_2.lt l3); have nao : ba ≠ bo := Nat.ne_of_lt (Nat.lt_of_lt_of_le Ba_2.lt l3); have Br_3 := Br_2.keep k3; have Ba_3 := Ba_2.keep k3; have Hw3 := bq_trans Hw2 k3; clear l3 k3 Br_2 Ba_2 Hw2)
    | (refine wl_load 46 2 _ Try.underlying46 rfl size51 _ rfl rfl _ rfl _ _ Br_3 rfl ?_)
    | (go_at_call 76; (with_reducible refine (HP.out _).mono ?_); rintro e W4 ⟨rfl, k4⟩; have Br_4 := Br_3.keep k4; have Ba_4 := Ba_3.keep k4; have Bo_4 := Bo_3.keep k4; have Hw4 := bq_trans Hw3 k4; clear k4 Br_3 Ba_3 Bo_3 Hw3)
    | (refine wl_alloc 46 _ zero51 rfl rfl ?_; intro W5 bj Bj_5 l5 k5; have gj : w.heap.size ≤ bj := Nat.le_trans Hw4.size l5; have nrj : br ≠ bj := Nat.ne_of_lt (Nat.lt_of_lt_of_le Br_4.lt l5); have naj : ba ≠ bj := Nat.ne_of_lt (Nat.lt_of_lt_of_le Ba_4.lt l5); have noj : bo ≠ bj := Nat.ne_of_lt (Nat.lt_of_lt_of_le Bo_4.lt l5); have Br_5 := Br_4.keep k5; have Ba_5 := Ba_4.keep k5; have Bo_5 := Bo_4.keep k5; have Hw5 := bq_trans Hw4 k5; clear l5 k5 Br_4 Ba_4 Bo_4 Hw4)
    | (refine wl_store 46 2 size51 _ _ rfl rfl _ rfl _ rfl _ _ Bj_5 rfl rfl (by kernel_rfl) ?_; intro W6 Bj_6 T6; have Br_6 := T6.blk Br_5 nrj; have Ba_6 := T6.blk Ba_5 naj; have Bo_6 := T6.blk Bo_5 noj; have Hw6 := T6.below Hw5 gj; clear T6 Br_5 Ba_5 Bo_5 Bj_5 Hw5))
  clear HP
  have HC7 : Hid (∀ w', But ba bo W6 w' → w'.cell? ⟨bj, 0, none⟩ = some (.string ys) ∧ w'.cell? ⟨bj, 1, none⟩ = some (.int .i64 ya)) := Lib.hid fun w' hw' => ⟨(Bj_6.but hw' (Ne.symm naj) (Ne.symm noj)).cell 0, (Bj_6.but hw' (Ne.symm naj) (Ne.symm noj)).cell 1⟩
  have hd7 : Below W6.heap.size W6 W6.drew := bq_drew (bq_refl W6)
  have da0 : W6.cell? ⟨ba, 0, none⟩ = some (.int .i64 0) := Ba_6.cell 0
  have fa0 := Ba_6.frozen 0
  have da1 : W6.cell? ⟨ba, 1, none⟩ = some (.int .i64 0) := Ba_6.cell 1
  have fa1 := Ba_6.frozen 1
  have da2 : W6.cell? ⟨ba, 2, none⟩ = some (.int .i64 0) := Ba_6.cell 2
  have fa2 := Ba_6.frozen 2
  have da3 : W6.cell? ⟨ba, 3, none⟩ = some (.int .i64 0) := Ba_6.cell 3
  have fa3 := Ba_6.frozen 3
  have do0 : W6.cell? ⟨bo, 0, none⟩ = some (.string ⟨#[]⟩) := Bo_6.cell 0
  have fo0 := Bo_6.frozen 0
  have do1 : W6.cell? ⟨bo, 1, none⟩ = some (.int .i64 0) := Bo_6.cell 1
  have fo1 := Bo_6.frozen 1
  have na7 : ¬ ba = bo := nao
  have nb7 : ¬ bo = ba := Ne.symm nao
  have rj0 : W6.cell? ⟨bj, 0, none⟩ = some (.string ys) := Bj_6.cell 0
  have rj1 : W6.cell? ⟨bj, 1, none⟩ = some (.int .i64 ya) := Bj_6.cell 1
  go_region
  have Br_7 := ((((((Br_6.other (a := ⟨ba, 0, none⟩) (.int .i64 v0) nra).other (a := ⟨ba, 1, none⟩) (.int .i64 v1) nra).other (a := ⟨ba, 2, none⟩) (.int .i64 v2) nra).other (a := ⟨ba, 3, none⟩) (.int .i64 v3) nra).other (a := ⟨bo, 0, none⟩) (.string ys) nro).other (a := ⟨bo, 1, none⟩) (.int .i64 ya) nro).drew
  have Ba_7 : Blk ((((((W6.setCell ⟨ba, 0, none⟩ (.int .i64 v0)).setCell ⟨ba, 1, none⟩ (.int .i64 v1)).setCell ⟨ba, 2, none⟩ (.int .i64 v2)).setCell ⟨ba, 3, none⟩ (.int .i64 v3)).setCell ⟨bo, 0, none⟩ (.string ys)).setCell ⟨bo, 1, none⟩ (.int .i64 ya)).drew ba (iA [v0, v1, v2, v3]) 23 := ((((((Ba_6.set 0 (.int .i64 v0)).set 1 (.int .i64 v1)).set 2 (.int .i64 v2)).set 3 (.int .i64 v3)).other (a := ⟨bo, 0, none⟩) (.string ys) nao).other (a := ⟨bo, 1, none⟩) (.int .i64 ya) nao).drew
  have Bo_7 : Blk ((((((W6.setCell ⟨ba, 0, none⟩ (.int .i64 v0)).setCell ⟨ba, 1, none⟩ (.int .i64 v1)).setCell ⟨ba, 2, none⟩ (.int .i64 v2)).setCell ⟨ba, 3, none⟩ (.int .i64 v3)).setCell ⟨bo, 0, none⟩ (.string ys)).setCell ⟨bo, 1, none⟩ (.int .i64 ya)).drew bo #[.string ys, .int .i64 ya] 46 := ((((((Bo_6.other (a := ⟨ba, 0, none⟩) (.int .i64 v0) (Ne.symm nao)).other (a := ⟨ba, 1, none⟩) (.int .i64 v1) (Ne.symm nao)).other (a := ⟨ba, 2, none⟩) (.int .i64 v2) (Ne.symm nao)).other (a := ⟨ba, 3, none⟩) (.int .i64 v3) (Ne.symm nao)).set 0 (.string ys)).set 1 (.int .i64 ya)).drew
  have Bj_7 := ((((((Bj_6.other (a := ⟨ba, 0, none⟩) (.int .i64 v0) (Ne.symm naj)).other (a := ⟨ba, 1, none⟩) (.int .i64 v1) (Ne.symm naj)).other (a := ⟨ba, 2, none⟩) (.int .i64 v2) (Ne.symm naj)).other (a := ⟨ba, 3, none⟩) (.int .i64 v3) (Ne.symm naj)).other (a := ⟨bo, 0, none⟩) (.string ys) (Ne.symm noj)).other (a := ⟨bo, 1, none⟩) (.int .i64 ya) (Ne.symm noj)).drew
  have Hw7 : Below w.heap.size w ((((((W6.setCell ⟨ba, 0, none⟩ (.int .i64 v0)).setCell ⟨ba, 1, none⟩ (.int .i64 v1)).setCell ⟨ba, 2, none⟩ (.int .i64 v2)).setCell ⟨ba, 3, none⟩ (.int .i64 v3)).setCell ⟨bo, 0, none⟩ (.string ys)).setCell ⟨bo, 1, none⟩ (.int .i64 ya)).drew := bq_drew (bq_set (bq_set (bq_set (bq_set (bq_set (bq_set Hw6 ⟨ba, 0, none⟩ ga (.int .i64 v0)) ⟨ba, 1, none⟩ ga (.int .i64 v1)) ⟨ba, 2, none⟩ ga (.int .i64 v2)) ⟨ba, 3, none⟩ ga (.int .i64 v3)) ⟨bo, 0, none⟩ go (.string ys)) ⟨bo, 1, none⟩ go (.int .i64 ya))
  clear HC7 hd7 da0 fa0 da1 fa1 da2 fa2 da3 fa3 do0 fo0 do1 fo1 na7 nb7 rj0 rj1 Br_6 Ba_6 Bo_6 Bj_6 Hw6 
  generalize ((((((W6.setCell ⟨ba, 0, none⟩ (.int .i64 v0)).setCell ⟨ba, 1, none⟩ (.int .i64 v1)).setCell ⟨ba, 2, none⟩ (.int .i64 v2)).setCell ⟨ba, 3, none⟩ (.int .i64 v3)).setCell ⟨bo, 0, none⟩ (.string ys)).setCell ⟨bo, 1, none⟩ (.int .i64 ya)).drew = W7 at Br_7 Ba_7 Bo_7 Bj_7 Hw7  ⊢
  go_wp2
  exact post_cell2_tmp (v := .int .i64 0) Try.underlying23 rfl size32z Try.underlying46 rfl size51 Try.results58 Ba_7 rfl Bo_7 rfl rfl rfl rfl rfl ⟨rfl, Hw7⟩
end Go.Proofs.Ythlnjipefeglpaa
namespace Go.Proofs.Ythlnjipefeglpaa
open Go.RowKit
set_option linter.unusedVariables false
theorem bytes4 (t : ByteArray) (h : t.size = 4) : ∃ c0 c1 c2 c3 : UInt8, t = ⟨#[c0, c1, c2, c3]⟩ := by
  obtain ⟨d⟩ := t
  obtain ⟨l⟩ := d
  match l, h with
  | [c0, c1, c2, c3], _ => exact ⟨c0, c1, c2, c3, rfl⟩
theorem by4_size (s : ByteArray) (a : Int) (h : byE s.size a 4 = 0) : (byB s a 4).size = 4 := by
  unfold byB
  rw [if_pos h]
  unfold byE at h
  split at h
  · split at h
    · cases h
    · rw [ByteArray.size_extract]
      have : (4 : Int).toNat = 4 := rfl
      omega
  · cases h
theorem by_err (s : ByteArray) (a : Int) (h : ¬ byE s.size a 4 = 0) : byS s a 4 = ⟨#[]⟩ ∧ byA s a 4 = 0 := ⟨if_neg h, if_neg h⟩
theorem takergba_any (s : ByteArray) (a : Int) (w : World) (hs : s.size ≤ 1000000) :
    Calls Try.prog 58 #[.agg #[.string s, .int .i64 a]] w fun e w' => e = .returned (.tuple #[.agg (iA (rgV s a)), .agg #[.string (byS s a 4), .int .i64 (byA s a 4)], .int .i64 (byE s.size a 4)]) ∧ Below w.heap.size w w' := by
  have HP0 := fun W => bytes_any s a 4 W (by omega)
  unfold byR at HP0
  by_cases h : byE s.size a 4 = 0
  · obtain ⟨c0, c1, c2, c3, ht⟩ := bytes4 _ (by4_size s a h)
    have hv : rgV s a = [(c0.toNat : Int), (c1.toNat : Int), (c2.toNat : Int), (c3.toNat : Int)] := by unfold rgV; rw [if_pos h, ht]; rfl
    rw [ht, h] at HP0
    rw [hv, h]
    have b := fun c : UInt8 => (show 0 ≤ (c.toNat : Int) ∧ (c.toNat : Int) ≤ 255 by have := c.toNat_lt; omega)
    exact takergba_ok s _ _ a _ _ _ _ _ w (b c0) (b c1) (b c2) (b c3) (fun W => by kernel_rfl) (fun W => by kernel_rfl) (fun W => by kernel_rfl) (fun W => by kernel_rfl) (Lib.hid HP0)
  · have hv : rgV s a = [0, 0, 0, 0] := if_neg h
    rw [hv, (by_err s a h).1, (by_err s a h).2]
    exact takergba_err s _ _ a _ _ w (by rw [bne_iff_ne]; exact h) (Lib.hid HP0)
end Go.Proofs.Ythlnjipefeglpaa
namespace Go.Proofs.Ythlnjipefeglpaa
open Go.RowKit
set_option linter.unusedVariables false
theorem wd_small (v : Int) (n : Nat) (hn : n ≤ 31) (h0 : -(B.P2 n : Int) ≤ v) (h1 : v < B.P2 n) : wd v ≤ n + 1 := by
  have hp : B.P2 n ≤ 2147483648 := B.P2_le (b := 31) hn
  by_cases h : v = 0
  · subst h; unfold wd; simp
  · exact (wd_iff v n h (by omega) (by omega) (by omega)).2 ⟨h0, h1⟩
theorem nr_wd {m v : Int} {n : Nat} (h : nr m v = true) (hn : n ≤ 31) (hm : m < B.P2 n) : wd v ≤ n + 1 := by
  have := (nr_iff m v).1 h
  exact wd_small v n hn (by omega) (by omega)
theorem all_wd {m : Int} {l : List Int} {n : Nat} (h : l.all (nr m) = true) (hn : n ≤ 31) (hm : m < B.P2 n) : mxW l ≤ n + 1 :=
  F.mxW_le fun v hv => nr_wd (List.all_eq_true.1 h v hv) hn hm
theorem rect_wd {l r t b : Int} (h : rectOk l r t b = true) : mxW [l, r, t, b] ≤ 22 := by
  unfold rectOk at h
  rw [Bool.and_eq_true, Bool.and_eq_true] at h
  exact all_wd (n := 21) h.1.1 (by omega) (by decide)
theorem rect_fit {l r t b : Int} (h : rectOk l r t b = true) : I64 l ∧ I64 r ∧ I64 t ∧ I64 b := by
  unfold rectOk at h
  rw [Bool.and_eq_true, Bool.and_eq_true] at h
  have h1 := h.1.1
  simp only [List.all_cons, List.all_nil, Bool.and_true, Bool.and_eq_true, nr_iff] at h1
  unfold I64
  omega
def rectF (l r t b : Int) : List (Nat × Nat) := F.nums 5 [l, r, t, b]
theorem rectF_len (l r t b : Int) : F.len (rectF l r t b) = 5 + 4 * mxW [l, r, t, b] := F.nums_len 5 [l, r, t, b]
theorem rectF_ok {l r t b : Int} (h : rectOk l r t b = true) : F.ok (rectF l r t b) := by
  have hw := rect_wd h
  obtain ⟨h1, h2, h3, h4⟩ := rect_fit h
  exact F.nums_ok (Nat.lt_of_le_of_lt hw (by decide)) (by omega) (i64_4 h1 h2 h3 h4)
end Go.Proofs.Ythlnjipefeglpaa
namespace Go.Proofs.Ythlnjipefeglpaa
open Go.RowKit
set_option linter.unusedVariables false
def tells (m d : List Int) : List Int := (if m = [256, 256, 256, 256] then [] else m) ++ (if d = [0, 0, 0, 0] then [] else d)
def cxB (d : List Int) : Bool := !decide (d = [0, 0, 0, 0])
def cxM (m : List Int) : Bool := !decide (m = [256, 256, 256, 256])
def cF2 (m d : List Int) : List (Nat × Nat) := [] ++ [(b01 (cxB d), 1)] ++ [(b01 (cxM m), 1)]
def cxF (m d : List Int) : List (Nat × Nat) := cF2 m d ++ F.nums 4 (tells m d)
end Go.Proofs.Ythlnjipefeglpaa
namespace Go.Proofs.Ythlnjipefeglpaa
open Go.RowKit
set_option linter.unusedVariables false
def anyNe (c : Int) (l : List Int) : Bool := l.any (· != c)
def NeRel (m d : List Int) (x y i : Value) : Prop := ∃ k : Nat, k ≤ 4 ∧ i = .int .i64 k ∧ x = .bool (anyNe 0 (d.take k)) ∧ y = .bool (anyNe 256 (m.take k))
end Go.Proofs.Ythlnjipefeglpaa
namespace Go.Proofs.Ythlnjipefeglpaa
open Go.RowKit
set_option linter.unusedVariables false
set_option maxRecDepth 100000
end Go.Proofs.Ythlnjipefeglpaa
namespace Go.Proofs.Ythlnjipefeglpaa
open Go.RowKit
set_option linter.unusedVariables false
set_option maxRecDepth 100000
end Go.Proofs.Ythlnjipefeglpaa
namespace Go.Proofs.Ythlnjipefeglpaa
open Go.RowKit
set_option linter.unusedVariables false
set_option maxRecDepth 100000
end Go.Proofs.Ythlnjipefeglpaa
namespace Go.Proofs.Ythlnjipefeglpaa
open Go.RowKit
set_option linter.unusedVariables false
set_option maxRecDepth 100000
end Go.Proofs.Ythlnjipefeglpaa
namespace Go.Proofs.Ythlnjipefeglpaa
open Go.RowKit
set_option linter.unusedVariables false
theorem size27 : (Try.prog.info? 25).map (·.size) = some 6 := by kernel_rfl
theorem zero27 (w : World) : (zeroValue 25).run Try.prog w = .ok (.agg #[.int .i64 0, .int .i64 0, .int .i64 0, .int .i64 0, .int .i64 0, .int .i64 0]) w := Try.zeroValue25 w
theorem same_any (w : World) : Calls Try.prog 66 #[] w fun e w' => e = .returned (.agg #[.int .i64 65536, .int .i64 0, .int .i64 0, .int .i64 65536, .int .i64 0, .int .i64 0]) ∧ Below w.heap.size w w' := by
  go_enter Try.func66, Try.ntmps66
  go_wp2_with (first
    | (refine wl_alloc 25 _ zero27 rfl rfl ?_; intro W1 br Br_1 l1 k1; have gr : w.heap.size ≤ br := l1; have H1 := k1; clear l1 k1)
    | (refine wl_store 25 6 size27 _ _ rfl rfl _ rfl #[.int .i64 65536, .int .i64 0, .int .i64 0, .int .i64 65536, .int .i64 0, .int .i64 0] rfl _ _ Br_1 rfl rfl (by kernel_rfl) ?_; intro W2 Br_2 T2; have H2 := T2.below H1 gr; clear T2 Br_1 H1))
  exact post_cell Try.underlying25 rfl size27 Try.results66 Br_2 rfl rfl rfl ⟨rfl, H2⟩
theorem mat_wd {a b c d x y : Int} (h : matOk a b c d x y = true) : mxW [a, d] ≤ 24 ∧ mxW [b, c] ≤ 24 ∧ mxW [x, y] ≤ 22 ∧ (I64 a ∧ I64 b ∧ I64 c ∧ I64 d ∧ I64 x ∧ I64 y) := by
  unfold matOk at h
  simp only [List.all_cons, List.all_nil, Bool.and_true, Bool.and_eq_true] at h
  obtain ⟨⟨ha, hb, hc, hd⟩, hx, hy⟩ := h
  have e (v : Int) (hv : nr 4194304 v = true) : wd v ≤ 24 ∧ I64 v := by
    refine ⟨nr_wd (n := 23) hv (by omega) (by decide), ?_⟩
    have := (nr_iff _ _).1 hv
    unfold I64
    omega
  have e2 (v : Int) (hv : nr 1048576 v = true) : wd v ≤ 22 ∧ I64 v := by
    refine ⟨nr_wd (n := 21) hv (by omega) (by decide), ?_⟩
    have := (nr_iff _ _).1 hv
    unfold I64
    omega
  refine ⟨F.mxW_le ?_, F.mxW_le ?_, F.mxW_le ?_, (e a ha).2, (e b hb).2, (e c hc).2, (e d hd).2, (e2 x hx).2, (e2 y hy).2⟩
  · intro v hv
    simp only [List.mem_cons, List.not_mem_nil, or_false] at hv
    rcases hv with rfl | rfl
    · exact (e _ ha).1
    · exact (e _ hd).1
  · intro v hv
    simp only [List.mem_cons, List.not_mem_nil, or_false] at hv
    rcases hv with rfl | rfl
    · exact (e _ hb).1
    · exact (e _ hc).1
  · intro v hv
    simp only [List.mem_cons, List.not_mem_nil, or_false] at hv
    rcases hv with rfl | rfl
    · exact (e2 _ hx).1
    · exact (e2 _ hy).1
end Go.Proofs.Ythlnjipefeglpaa
