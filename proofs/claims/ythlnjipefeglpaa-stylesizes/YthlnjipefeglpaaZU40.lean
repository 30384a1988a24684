import Derived.Test.YthlnjipefeglpaaZU39
namespace Go.Proofs.Ythlnjipefeglpaa
open Go.RowKit
set_option linter.unusedVariables false
set_option linter.unusedSimpArgs false
set_option maxRecDepth 100000
theorem pputfill_any (s : ByteArray) (F : FV) (sv : Value) (w : World) (hs : s.size ≤ 400000) (hF : F.Fit) (hsl : Stops w sv F.st) (hok : fillOk F = true) :
    Calls Try.prog 31 #[.agg #[.string s, .int .i64 0], .agg (fillC F sv).toArray] w fun e w' => e = .returned (.agg #[.string (s ++ bs (fillB F)), .int .i64 0]) ∧ Below w.heap.size w w' := by
  have hlen := fillB_len hok hF
  obtain ⟨k, c, m, sp, st, id⟩ := F
  obtain ⟨_, lc, lm, _, _, _, _⟩ := hF
  dsimp only at lc lm hsl
  obtain ⟨r, g, b, a, rfl⟩ := list4 c lc
  obtain ⟨m0, m1, m2, m3, m4, m5, rfl⟩ := list6 m lm
  have hsl0 := hsl
  obtain ⟨sa, sc, sb, so, rfl, hl, _⟩ := hsl.get
  have z1 : ∀ n, (bs (by1 n)).size = 1 := fun n => by rw [bs_size]; rfl
  have z2 : ∀ n, (bs (by2 n)).size = 2 := fun n => by rw [bs_size]; rfl
  unfold fillOk at hok
  dsimp only at hok
  split at hok
  · rename_i hk
    have hk : k = 0 := hk
    subst hk
    simp only [Bool.and_eq_true, decide_eq_true_eq] at hok
    have hc : rgbaOk r g b a = true := hok.2
    have HO := Lib.hid (fun W => putlit1 s 0 W (by omega) (by omega))
    have HC := Lib.hid (fun W => putrgba_ok (s ++ bs (by1 0)) 0 r g b a W (by rw [ByteArray.size_append, z1]; omega) hc)
    have e : s ++ bs (by1 0) ++ bs (by4 r g b a) = s ++ bs (fillB ⟨0, [r, g, b, a], [m0, m1, m2, m3, m4, m5], sp, st, id⟩) := by rw [cat_bs]; rfl
    rw [← e]
    exact pput_0 r g b a m0 m1 m2 m3 m4 m5 sp id s _ _ st sa sc w HO HC
  · rename_i hk0
    split at hok
    · rename_i hk
      simp only [Bool.and_eq_true, decide_eq_true_eq] at hok
      have hm : matOk m0 m1 m2 m3 m4 m5 = true := hok.2
      obtain ⟨i, rfl⟩ : ∃ i : Nat, id = (i : Int) := ⟨id.toNat, by omega⟩
      have hk : k = 64 ∨ k = 65 := hk
      rcases hk with rfl | rfl
      · have HO := Lib.hid (fun W => putlit1 s 64 W (by omega) (by omega))
        have HI := Lib.hid (fun W => putlit2 (s ++ bs (by1 64)) i W (by rw [ByteArray.size_append, z1]; omega) (by omega))
        have HM := Lib.hid (fun W => putmatrix_ok (s ++ bs (by1 64) ++ bs (by2 i)) 0 m0 m1 m2 m3 m4 m5 W (by rw [ByteArray.size_append, ByteArray.size_append, z1, z2]; omega) hm)
        have e : s ++ bs (by1 64) ++ bs (by2 i) ++ bs (F.bys (matF m0 m1 m2 m3 m4 m5)) = s ++ bs (fillB ⟨64, [r, g, b, a], [m0, m1, m2, m3, m4, m5], sp, st, (i : Int)⟩) := by
          rw [cat_bs, cat_bs]
          show s ++ bs (by1 64 ++ by2 i ++ F.bys (matF m0 m1 m2 m3 m4 m5)) = s ++ bs (by1 64 ++ (by2 i ++ F.bys (matF m0 m1 m2 m3 m4 m5)))
          rw [List.append_assoc]
        rw [← e]
        exact pput_64 r g b a m0 m1 m2 m3 m4 m5 sp i s _ _ _ st sa sc w HO HI HM
      · have HO := Lib.hid (fun W => putlit1 s 65 W (by omega) (by omega))
        have HI := Lib.hid (fun W => putlit2 (s ++ bs (by1 65)) i W (by rw [ByteArray.size_append, z1]; omega) (by omega))
        have HM := Lib.hid (fun W => putmatrix_ok (s ++ bs (by1 65) ++ bs (by2 i)) 0 m0 m1 m2 m3 m4 m5 W (by rw [ByteArray.size_append, ByteArray.size_append, z1, z2]; omega) hm)
        have e : s ++ bs (by1 65) ++ bs (by2 i) ++ bs (F.bys (matF m0 m1 m2 m3 m4 m5)) = s ++ bs (fillB ⟨65, [r, g, b, a], [m0, m1, m2, m3, m4, m5], sp, st, (i : Int)⟩) := by
          rw [cat_bs, cat_bs]
          show s ++ bs (by1 65 ++ by2 i ++ F.bys (matF m0 m1 m2 m3 m4 m5)) = s ++ bs (by1 65 ++ (by2 i ++ F.bys (matF m0 m1 m2 m3 m4 m5)))
          rw [List.append_assoc]
        rw [← e]
        exact pput_65 r g b a m0 m1 m2 m3 m4 m5 sp i s _ _ _ st sa sc w HO HI HM
    · rename_i hk64
      split at hok
      · rename_i hk
        simp only [Bool.and_eq_true, decide_eq_true_eq] at hok
        have hm : matOk m0 m1 m2 m3 m4 m5 = true := hok.2
        have hst : stopsFrom 0 st = true := hok.1.1.1.1.1.1.1
        obtain ⟨q, rfl⟩ : ∃ q : Nat, sp = (q : Int) := ⟨sp.toNat, by omega⟩
        have hq : q ≤ 2 := by omega
        have hl8 : st.length ≤ 8 := by omega
        have hmb := mat_bytes9 hm
        have z3 : (bs (F.bys (matF m0 m1 m2 m3 m4 m5))).size ≤ 20 := by rw [bs_size]; exact hmb
        have hk : k = 16 ∨ k = 18 := hk
        rcases hk with rfl | rfl
        · have HO := Lib.hid (fun W => putlit1 s 16 W (by omega) (by omega))
          have HM := Lib.hid (fun W => putmatrix_ok (s ++ bs (by1 16)) 0 m0 m1 m2 m3 m4 m5 W (by rw [ByteArray.size_append, z1]; omega) hm)
          have HB0 := fun W => putlit1 (s ++ bs (by1 16) ++ bs (F.bys (matF m0 m1 m2 m3 m4 m5))) (64 * q + st.length) W (by rw [ByteArray.size_append, ByteArray.size_append, z1]; omega) (by omega)
          have ev : ((64 * q + st.length : Nat) : Int) = (q : Int) * 64 + (st.length : Int) := by omega
          rw [ev] at HB0
          have HB := Lib.hid HB0
          have hv : (s ++ bs (by1 16) ++ bs (F.bys (matF m0 m1 m2 m3 m4 m5)) ++ bs (by1 (64 * q + st.length))).size ≤ 500000 := by rw [ByteArray.size_append, ByteArray.size_append, ByteArray.size_append, z1, z1]; omega
          have e : s ++ bs (by1 16) ++ bs (F.bys (matF m0 m1 m2 m3 m4 m5)) ++ bs (by1 (64 * q + st.length)) ++ bs (st.flatMap stopB) = s ++ bs (fillB ⟨16, [r, g, b, a], [m0, m1, m2, m3, m4, m5], (q : Int), st, id⟩) := by
            simp only [cat_bs]
            have e2 : fillB ⟨16, [r, g, b, a], [m0, m1, m2, m3, m4, m5], (q : Int), st, id⟩ = by1 16 ++ (F.bys (matF m0 m1 m2 m3 m4 m5) ++ by1 (64 * q + st.length) ++ st.flatMap stopB) := rfl
            rw [e2]
            simp only [List.append_assoc]
          rw [← e]
          exact pput_16 r g b a m0 m1 m2 m3 m4 m5 id q s _ _ _ st sa sc w HO HM HB hq hl8 hst hsl0 hv
        · have HO := Lib.hid (fun W => putlit1 s 18 W (by omega) (by omega))
          have HM := Lib.hid (fun W => putmatrix_ok (s ++ bs (by1 18)) 0 m0 m1 m2 m3 m4 m5 W (by rw [ByteArray.size_append, z1]; omega) hm)
          have HB0 := fun W => putlit1 (s ++ bs (by1 18) ++ bs (F.bys (matF m0 m1 m2 m3 m4 m5))) (64 * q + st.length) W (by rw [ByteArray.size_append, ByteArray.size_append, z1]; omega) (by omega)
          have ev : ((64 * q + st.length : Nat) : Int) = (q : Int) * 64 + (st.length : Int) := by omega
          rw [ev] at HB0
          have HB := Lib.hid HB0
          have hv : (s ++ bs (by1 18) ++ bs (F.bys (matF m0 m1 m2 m3 m4 m5)) ++ bs (by1 (64 * q + st.length))).size ≤ 500000 := by rw [ByteArray.size_append, ByteArray.size_append, ByteArray.size_append, z1, z1]; omega
          have e : s ++ bs (by1 18) ++ bs (F.bys (matF m0 m1 m2 m3 m4 m5)) ++ bs (by1 (64 * q + st.length)) ++ bs (st.flatMap stopB) = s ++ bs (fillB ⟨18, [r, g, b, a], [m0, m1, m2, m3, m4, m5], (q : Int), st, id⟩) := by
            simp only [cat_bs]
            have e2 : fillB ⟨18, [r, g, b, a], [m0, m1, m2, m3, m4, m5], (q : Int), st, id⟩ = by1 18 ++ (F.bys (matF m0 m1 m2 m3 m4 m5) ++ by1 (64 * q + st.length) ++ st.flatMap stopB) := rfl
            rw [e2]
            simp only [List.append_assoc]
          rw [← e]
          exact pput_18 r g b a m0 m1 m2 m3 m4 m5 id q s _ _ _ st sa sc w HO HM HB hq hl8 hst hsl0 hv
      · cases hok
def pputillRel (w : World) (s : ByteArray) (xs : List FV) (bw bo : Nat) (i : Value) (wr : World) : Prop :=
  ∃ k : Nat, k ≤ xs.length ∧ i = .int .i64 k ∧ Blk wr bw #[.string (s ++ bs (by1 xs.length ++ (xs.take k).flatMap fillB)), .int .i64 0] 40 ∧ Blk wr bo #[.string ⟨#[]⟩, .int .i64 0] 40 ∧ Below w.heap.size w wr
set_option maxHeartbeats 4000000 in
theorem pputfills_any (s : ByteArray) (xs : List FV) (v : Value) (w : World) (hs : s.size ≤ 200000) (hx : Fills w v xs) (hl : xs.length < 16) (hok : xs.all fillOk = true) :
    Calls Try.prog 30 #[.agg #[.string s, .int .i64 0], v, .func (.func 31) #[] #[]] w fun e w' => e = .returned (.agg #[.string (s ++ bs (by1 xs.length ++ xs.flatMap fillB)), .int .i64 0]) ∧ Below w.heap.size w w' := by
  have HO := Lib.hid (fun W => putlit1 s xs.length W (by omega) (by omega))
  obtain ⟨pa, pc, pb, po, rfl, la, pget⟩ := hx.get
  have PG := Lib.hid pget
  have HOK := Lib.hid (List.all_eq_true.1 hok)
  have HS := Lib.hid hs
  clear hx pget hok hs
  go_enter Try.func30, Try.ntmps30
  go_wp2_with (first
    | (refine wl_box 40 _ _ rfl rfl (show _ = Value.agg #[.string s, .int .i64 0] from rfl) ?_; intro W1 bw Bw_1 l1 k1; have gw : w.heap.size ≤ bw := l1; have Hw1 := k1; clear l1 k1)
    | (refine wl_alloc 40 _ zero40p rfl rfl ?_; intro W2 bo Bo_2 l2 k2; have go : w.heap.size ≤ bo := Nat.le_trans Hw1.size l2; have nwo : bw ≠ bo := Nat.ne_of_lt (Nat.lt_of_lt_of_le Bw_1.lt l2); have Bw_2 := Bw_1.keep k2; have Hw2 := bq_trans Hw1 k2; clear l2 k2 Bw_1 Hw1)
    | (refine wl_load 40 2 _ Try.underlying40 rfl size40p _ rfl rfl _ rfl _ _ Bw_2 rfl ?_)
    | (go_at_call 50; (with_reducible refine (HO.out _).mono ?_); rintro e W3 ⟨rfl, k3⟩; have Bw_3 := Bw_2.keep k3; have Bo_3 := Bo_2.keep k3; have Hw3 := bq_trans Hw2 k3; clear k3 Bw_2 Bo_2 Hw2)
    | (refine wl_store 40 2 size40p _ _ rfl rfl _ rfl #[.string (s ++ bs (by1 xs.length)), .int .i64 0] rfl _ _ Bw_3 rfl rfl (by kernel_rfl) ?_; intro W4 Bw_4 T4; have Bo_4 := T4.blk Bo_3 (Ne.symm nwo); have Hw4 := T4.below Hw3 gw; clear T4 Bo_3 Bw_3 Hw3))
  have BW0 : Blk W4 bw #[.string (s ++ bs (by1 xs.length ++ (xs.take 0).flatMap fillB)), .int .i64 0] 40 := by
    rw [List.take_zero, List.flatMap_nil, List.append_nil]
    exact Bw_4
  have BO0 := Bo_4
  have HB0 := Hw4
  clear Bw_4 Bo_4 Hw4 HO
  go_loopw [8, 18] (fun _ i wr => pputillRel w s xs bw bo i wr) (fun _ i _ => xs.length - (intOf i).toNat)
  case atStart => exact ⟨0, by omega, rfl, BW0, BO0, HB0⟩
  case round =>
    obtain ⟨k, hk, rfl, BW, BO, hbel⟩ := hrel
    clear BW0 BO0 HB0
    have HBw := hbel
    by_cases hlt : k < xs.length
    · obtain ⟨rfl, _, cs, _, ⟨hf1, sv, rfl, hs1⟩, hrg⟩ := PG.out k hlt
      have rg := rangeAt_keep hrg hbel
      have hok1 := HOK.out xs[k] (List.getElem_mem hlt)
      have hk1 : Stops wr sv xs[k].st := Sl.keep num5_lasts hs1 HBw
      have HCall := fun (u : ByteArray) (hu : u.size ≤ 250000) W (hW : Below wr.heap.size wr W) => pputfill_any u xs[k] sv W (by omega) hf1 (Sl.keep num5_lasts hk1 hW) hok1
      have HCall := fun W hW hu => HCall (s ++ bs (by1 xs.length ++ (xs.take k).flatMap fillB)) hu W hW
      have HLEN : ∀ x ∈ xs.take k, (fillB x).length ≤ 70 := fun x hx => by
        obtain ⟨i, hi, rfl⟩ := List.getElem_of_mem (List.mem_of_mem_take hx)
        obtain ⟨_, _, cs2, _, ⟨hf2, _⟩, _⟩ := PG.out i hi
        exact fillB_len (HOK.out _ (List.getElem_mem hi)) hf2
      have hsz := size28f hf1 sv
      have hn2 := fillA_size hf1 sv
      have h1 := slice_one hs1 xs[k]
      clear hs1 hk1 hf1
      have hfl := flat_len fillB (xs.take k) 70 HLEN
      have hu : (s ++ bs (by1 xs.length ++ (xs.take k).flatMap fillB)).size ≤ 250000 := by
        rw [ByteArray.size_append, bs_size, List.length_append]
        have h1 : (by1 xs.length).length = 1 := rfl
        have h2 : (xs.take k).length ≤ 15 := by rw [List.length_take]; omega
        have h3 : (xs.take k).length * 70 ≤ 15 * 70 := Nat.mul_le_mul_right _ h2
        have := HS.out
        omega
      have HNX : Hid (s ++ bs (by1 xs.length ++ (xs.take k).flatMap fillB) ++ bs (fillB xs[k]) = s ++ bs (by1 xs.length ++ (xs.take (k + 1)).flatMap fillB)) := Lib.hid (by rw [cat_bs, flat_take fillB xs k hlt, List.append_assoc])
      have HC := Lib.hid (fun W hW => HCall W hW hu)
      have i1 : (0 : Int) ≤ (k : Int) := by omega
      have i2 : (k : Int) < (xs.length : Int) := by omega
      clear hrg hbel hok1 hfl hu HCall HLEN PG HOK HS
      generalize s ++ bs (by1 xs.length ++ (xs.take k).flatMap fillB) ++ bs (fillB xs[k]) = t1 at *
      generalize s ++ bs (by1 xs.length ++ (xs.take k).flatMap fillB) = u at *
      generalize xs[k] = X at *
      go_wp2_with (first
        | (refine wpList_load_mid rfl 28 _ rfl pb (po + k * 14) rfl (fillC X sv) _ rg Try.underlying28 rfl hsz ?_)
        | (refine wl_alloc 28 _ zeroFL rfl rfl ?_; intro W41 bf Bf_41 l41 k41; have gf : w.heap.size ≤ bf := Nat.le_trans HBw.size l41; have nwf : bw ≠ bf := Nat.ne_of_lt (Nat.lt_of_lt_of_le BW.lt l41); have nof : bo ≠ bf := Nat.ne_of_lt (Nat.lt_of_lt_of_le BO.lt l41); have gfR : wr.heap.size ≤ bf := Nat.le_trans (bq_refl wr).size l41; have Bw_41 := BW.keep k41; have Bo_41 := BO.keep k41; have Hw41 := bq_trans HBw k41; have HR41 := bq_trans (bq_refl wr) k41; clear l41 k41 BW BO HBw)
        | (refine wl_store 28 14 sizeFL _ _ rfl rfl _ rfl _ rfl _ _ Bf_41 rfl hn2 h1 ?_; intro W42 Bf_42 T42; have Bw_42 := T42.blk Bw_41 nwf; have Bo_42 := T42.blk Bo_41 nof; have Hw42 := T42.below Hw41 gf; have HR42 := T42.below HR41 gfR; clear T42 Bw_41 Bo_41 Bf_41 Hw41 HR41)
        | (refine wl_load 40 2 _ Try.underlying40 rfl size40p _ rfl rfl _ rfl _ _ Bw_42 rfl ?_)
        | (refine wl_load 28 14 _ Try.underlying28 rfl sizeFL _ rfl rfl _ rfl _ _ Bf_42 hn2 ?_)
        | (go_at_call 31; (with_reducible refine (HC.out _ HR42).mono ?_); rintro e W43 ⟨rfl, k43⟩; have Bw_43 := Bw_42.keep k43; have Bo_43 := Bo_42.keep k43; have Bf_43 := Bf_42.keep k43; have Hw43 := bq_trans Hw42 k43; have HR43 := bq_trans HR42 k43; clear k43 Bw_42 Bo_42 Bf_42 Hw42 HR42)
        | (refine wl_store 40 2 size40p _ _ rfl rfl _ rfl #[.string t1, .int .i64 0] rfl _ _ Bw_43 rfl rfl (by kernel_rfl) ?_; intro W44 Bw_44 T44; have Bo_44 := T44.blk Bo_43 (Ne.symm nwo); have Bf_44 := T44.blk Bf_43 (Ne.symm nwf); have Hw44 := T44.below Hw43 gw; clear T44 Bo_43 Bf_43 Bw_43 Hw43))
      have BWn := Bw_44
      rw [HNX.out] at BWn
      go_roundw
      case rel => exact ⟨k + 1, by omega, by go_num, BWn, Bo_44, Hw44⟩
      case measure => simp [intOf]; omega
    · have e : (xs.take k) = xs := List.take_of_length_le (by omega)
      rw [e] at BW
      have i2 : ¬ (k : Int) < (xs.length : Int) := by omega
      clear hbel PG HOK HS e
      go_wp2_with (first
        | (refine wl_load 40 2 _ Try.underlying40 rfl size40p _ rfl rfl _ rfl _ _ BW rfl ?_)
        | (refine wl_store 40 2 size40p _ _ rfl rfl _ rfl _ rfl _ _ BO rfl rfl (by kernel_rfl) ?_; intro W61 Bo_61 T61; have Bw_61 := T61.blk BW nwo; have Hw61 := T61.below HBw go; clear T61 BW BO HBw))
      exact post_cell Try.underlying40 rfl size40p Try.results30 Bo_61 rfl rfl rfl ⟨rfl, Hw61⟩
def pputokeRel (w : World) (s : ByteArray) (xs : List (List Int)) (bw bo : Nat) (i : Value) (wr : World) : Prop :=
  ∃ k : Nat, k ≤ xs.length ∧ i = .int .i64 k ∧ Blk wr bw #[.string (s ++ bs (by1 xs.length ++ (xs.take k).flatMap lineB)), .int .i64 0] 40 ∧ Blk wr bo #[.string ⟨#[]⟩, .int .i64 0] 40 ∧ Below w.heap.size w wr
set_option maxHeartbeats 4000000 in
theorem pputlines_any (s : ByteArray) (xs : List (List Int)) (v : Value) (w : World) (hs : s.size ≤ 200000) (hx : Strokes w v xs) (hl : xs.length < 16) (hok : xs.all strokeL = true) :
    Calls Try.prog 32 #[.agg #[.string s, .int .i64 0], v, .func (.func 33) #[] #[]] w fun e w' => e = .returned (.agg #[.string (s ++ bs (by1 xs.length ++ xs.flatMap lineB)), .int .i64 0]) ∧ Below w.heap.size w w' := by
  have HO := Lib.hid (fun W => putlit1 s xs.length W (by omega) (by omega))
  obtain ⟨pa, pc, pb, po, rfl, la, pget⟩ := hx.get
  have PG := Lib.hid pget
  have HOK := Lib.hid (List.all_eq_true.1 hok)
  have HS := Lib.hid hs
  clear hx pget hok hs
  go_enter Try.func32, Try.ntmps32
  go_wp2_with (first
    | (refine wl_box 40 _ _ rfl rfl (show _ = Value.agg #[.string s, .int .i64 0] from rfl) ?_; intro W1 bw Bw_1 l1 k1; have gw : w.heap.size ≤ bw := l1; have Hw1 := k1; clear l1 k1)
    | (refine wl_alloc 40 _ zero40p rfl rfl ?_; intro W2 bo Bo_2 l2 k2; have go : w.heap.size ≤ bo := Nat.le_trans Hw1.size l2; have nwo : bw ≠ bo := Nat.ne_of_lt (Nat.lt_of_lt_of_le Bw_1.lt l2); have Bw_2 := Bw_1.keep k2; have Hw2 := bq_trans Hw1 k2; clear l2 k2 Bw_1 Hw1)
    | (refine wl_load 40 2 _ Try.underlying40 rfl size40p _ rfl rfl _ rfl _ _ Bw_2 rfl ?_)
    | (go_at_call 50; (with_reducible refine (HO.out _).mono ?_); rintro e W3 ⟨rfl, k3⟩; have Bw_3 := Bw_2.keep k3; have Bo_3 := Bo_2.keep k3; have Hw3 := bq_trans Hw2 k3; clear k3 Bw_2 Bo_2 Hw2)
    | (refine wl_store 40 2 size40p _ _ rfl rfl _ rfl #[.string (s ++ bs (by1 xs.length)), .int .i64 0] rfl _ _ Bw_3 rfl rfl (by kernel_rfl) ?_; intro W4 Bw_4 T4; have Bo_4 := T4.blk Bo_3 (Ne.symm nwo); have Hw4 := T4.below Hw3 gw; clear T4 Bo_3 Bw_3 Hw3))
  have BW0 : Blk W4 bw #[.string (s ++ bs (by1 xs.length ++ (xs.take 0).flatMap lineB)), .int .i64 0] 40 := by
    rw [List.take_zero, List.flatMap_nil, List.append_nil]
    exact Bw_4
  have BO0 := Bo_4
  have HB0 := Hw4
  clear Bw_4 Bo_4 Hw4 HO
  go_loopw [8, 18] (fun _ i wr => pputokeRel w s xs bw bo i wr) (fun _ i _ => xs.length - (intOf i).toNat)
  case atStart => exact ⟨0, by omega, rfl, BW0, BO0, HB0⟩
  case round =>
    obtain ⟨k, hk, rfl, BW, BO, hbel⟩ := hrel
    clear BW0 BO0 HB0
    have HBw := hbel
    by_cases hlt : k < xs.length
    · obtain ⟨rfl, _, cs, _, ⟨h5, rfl, hb5⟩, hrg⟩ := PG.out k hlt
      have rg := rangeAt_keep hrg hbel
      have hok1 := HOK.out xs[k] (List.getElem_mem hlt)
      have HCall := fun W (hW : Below wr.heap.size wr W) (hu : (s ++ bs (by1 xs.length ++ (xs.take k).flatMap lineB)).size ≤ 250000) => pputline_any (s ++ bs (by1 xs.length ++ (xs.take k).flatMap lineB)) xs[k] W (by omega) h5 hok1
      have HLEN : ∀ x ∈ xs.take k, (lineB x).length ≤ 6 := fun x hx => lineB_len x
      have hsz := size30f h5
      have hn2 := iLA_size h5
      have h1 := iLA_one xs[k]
      clear h5 hb5
      have hfl := flat_len lineB (xs.take k) 6 HLEN
      have hu : (s ++ bs (by1 xs.length ++ (xs.take k).flatMap lineB)).size ≤ 250000 := by
        rw [ByteArray.size_append, bs_size, List.length_append]
        have h1 : (by1 xs.length).length = 1 := rfl
        have h2 : (xs.take k).length ≤ 15 := by rw [List.length_take]; omega
        have h3 : (xs.take k).length * 6 ≤ 15 * 6 := Nat.mul_le_mul_right _ h2
        have := HS.out
        omega
      have HNX : Hid (s ++ bs (by1 xs.length ++ (xs.take k).flatMap lineB) ++ bs (lineB xs[k]) = s ++ bs (by1 xs.length ++ (xs.take (k + 1)).flatMap lineB)) := Lib.hid (by rw [cat_bs, flat_take lineB xs k hlt, List.append_assoc])
      have HC := Lib.hid (fun W hW => HCall W hW hu)
      have i1 : (0 : Int) ≤ (k : Int) := by omega
      have i2 : (k : Int) < (xs.length : Int) := by omega
      clear hrg hbel hok1 hfl hu HCall HLEN PG HOK HS
      generalize s ++ bs (by1 xs.length ++ (xs.take k).flatMap lineB) ++ bs (lineB xs[k]) = t1 at *
      generalize s ++ bs (by1 xs.length ++ (xs.take k).flatMap lineB) = u at *
      generalize xs[k] = X at *
      go_wp2_with (first
        | (refine wpList_load_mid rfl 30 _ rfl pb (po + k * 5) rfl (iL X) _ rg Try.underlying30 rfl hsz ?_)
        | (refine wl_alloc 30 _ zeroSK rfl rfl ?_; intro W41 bf Bf_41 l41 k41; have gf : w.heap.size ≤ bf := Nat.le_trans HBw.size l41; have nwf : bw ≠ bf := Nat.ne_of_lt (Nat.lt_of_lt_of_le BW.lt l41); have nof : bo ≠ bf := Nat.ne_of_lt (Nat.lt_of_lt_of_le BO.lt l41); have gfR : wr.heap.size ≤ bf := Nat.le_trans (bq_refl wr).size l41; have Bw_41 := BW.keep k41; have Bo_41 := BO.keep k41; have Hw41 := bq_trans HBw k41; have HR41 := bq_trans (bq_refl wr) k41; clear l41 k41 BW BO HBw)
        | (refine wl_store 30 5 sizeSK _ _ rfl rfl _ rfl _ rfl _ _ Bf_41 rfl hn2 h1 ?_; intro W42 Bf_42 T42; have Bw_42 := T42.blk Bw_41 nwf; have Bo_42 := T42.blk Bo_41 nof; have Hw42 := T42.below Hw41 gf; have HR42 := T42.below HR41 gfR; clear T42 Bw_41 Bo_41 Bf_41 Hw41 HR41)
        | (refine wl_load 40 2 _ Try.underlying40 rfl size40p _ rfl rfl _ rfl _ _ Bw_42 rfl ?_)
        | (refine wl_load 30 5 _ Try.underlying30 rfl sizeSK _ rfl rfl _ rfl _ _ Bf_42 hn2 ?_)
        | (go_at_call 33; (with_reducible refine (HC.out _ HR42).mono ?_); rintro e W43 ⟨rfl, k43⟩; have Bw_43 := Bw_42.keep k43; have Bo_43 := Bo_42.keep k43; have Bf_43 := Bf_42.keep k43; have Hw43 := bq_trans Hw42 k43; have HR43 := bq_trans HR42 k43; clear k43 Bw_42 Bo_42 Bf_42 Hw42 HR42)
        | (refine wl_store 40 2 size40p _ _ rfl rfl _ rfl #[.string t1, .int .i64 0] rfl _ _ Bw_43 rfl rfl (by kernel_rfl) ?_; intro W44 Bw_44 T44; have Bo_44 := T44.blk Bo_43 (Ne.symm nwo); have Bf_44 := T44.blk Bf_43 (Ne.symm nwf); have Hw44 := T44.below Hw43 gw; clear T44 Bo_43 Bf_43 Bw_43 Hw43))
      have BWn := Bw_44
      rw [HNX.out] at BWn
      go_roundw
      case rel => exact ⟨k + 1, by omega, by go_num, BWn, Bo_44, Hw44⟩
      case measure => simp [intOf]; omega
    · have e : (xs.take k) = xs := List.take_of_length_le (by omega)
      rw [e] at BW
      have i2 : ¬ (k : Int) < (xs.length : Int) := by omega
      clear hbel PG HOK HS e
      go_wp2_with (first
        | (refine wl_load 40 2 _ Try.underlying40 rfl size40p _ rfl rfl _ rfl _ _ BW rfl ?_)
        | (refine wl_store 40 2 size40p _ _ rfl rfl _ rfl _ rfl _ _ BO rfl rfl (by kernel_rfl) ?_; intro W61 Bo_61 T61; have Bw_61 := T61.blk BW nwo; have Hw61 := T61.below HBw go; clear T61 BW BO HBw))
      exact post_cell Try.underlying40 rfl size40p Try.results32 Bo_61 rfl rfl rfl ⟨rfl, Hw61⟩
theorem empty_bs (l : List UInt8) : (⟨#[]⟩ : ByteArray) ++ bs l = bs l := by
  apply ByteArray.ext
  rw [ByteArray.data_append]
  simp [bs]
theorem listB_len {Fs : List FV} {xs : List (List Int)} (h1 : Fs.length < 16) (h2 : xs.length < 16) (hf : ∀ F ∈ Fs, (fillB F).length ≤ 70) : (by1 Fs.length ++ Fs.flatMap fillB).length ≤ 1100 := by
  have := flat_len fillB Fs 70 hf
  have h3 : Fs.length * 70 ≤ 15 * 70 := Nat.mul_le_mul_right _ (by omega)
  rw [List.length_append]
  have : (by1 Fs.length).length = 1 := rfl
  omega
theorem pput_bad (s : ByteArray) (f : Int) (Fs : List FV) (xs : List (List Int)) (fv sv : Value) (w : World) (hf : Fills w fv Fs) (hx : Strokes w sv xs) (hok : listsOk Fs xs = false) :
    Calls Try.prog 16 #[.agg #[.string s, .int .i64 f], fv, sv] w fun e w' => e = .returned (.tuple #[.agg #[.string ⟨#[]⟩, .int .i64 0], .int .i64 1]) ∧ Below w.heap.size w w' := by
  have HR := Lib.hid (fun W (hW : Below w.heap.size w W) => pright_any Fs xs fv sv W (Sl.keep fill_lasts hf hW) (Sl.keep num5_lasts hx hW))
  rw [hok] at HR
  clear hf hx hok
  go_enter Try.func16, Try.ntmps16
  go_wp2_with (first
    | (refine wl_box 40 _ _ rfl rfl (show _ = Value.agg #[.string s, .int .i64 f] from rfl) ?_; intro W1 bw Bw_1 l1 k1; have gw : w.heap.size ≤ bw := l1; have Hw1 := k1; clear l1 k1)
    | (refine wl_alloc 40 _ zero40p rfl rfl ?_; intro W2 bo Bo_2 l2 k2; have go : w.heap.size ≤ bo := Nat.le_trans Hw1.size l2; have nwo : bw ≠ bo := Nat.ne_of_lt (Nat.lt_of_lt_of_le Bw_1.lt l2); have Bw_2 := Bw_1.keep k2; have Hw2 := bq_trans Hw1 k2; clear l2 k2 Bw_1 Hw1)
    | (go_at_call 18; (with_reducible refine (HR.out _ Hw2).mono ?_); rintro e W3 ⟨rfl, k3⟩; have Bw_3 := Bw_2.keep k3; have Bo_3 := Bo_2.keep k3; have Hw3 := bq_trans Hw2 k3; clear k3 Bw_2 Bo_2 Hw2)
    | (refine wl_store 40 2 size40p _ _ rfl rfl _ rfl #[.string ⟨#[]⟩, .int .i64 0] rfl _ _ Bo_3 rfl rfl (by kernel_rfl) ?_; intro W4 Bo_4 T4; have Bw_4 := T4.blk Bw_3 nwo; have Hw4 := T4.below Hw3 go; clear T4 Bw_3 Bo_3 Hw3))
  exact post_cell_tmp (v := .int .i64 1) Try.underlying40 rfl size40p Try.results16 Bo_4 rfl rfl rfl rfl ⟨rfl, Hw4⟩
set_option maxHeartbeats 1000000 in
theorem pput_ok (s : ByteArray) (f : Int) (Fs : List FV) (xs : List (List Int)) (fv sv : Value) (w : World) (hs : s.size ≤ 1000000) (hf : Fills w fv Fs) (hx : Strokes w sv xs) (hok : listsOk Fs xs = true) :
    Calls Try.prog 16 #[.agg #[.string s, .int .i64 f], fv, sv] w fun e w' => e = .returned (.tuple #[.agg #[.string (s ++ bs (listB Fs xs)), .int .i64 0], .int .i64 0]) ∧ Below w.heap.size w w' := by
  have HR := Lib.hid (fun W (hW : Below w.heap.size w W) => pright_any Fs xs fv sv W (Sl.keep fill_lasts hf hW) (Sl.keep num5_lasts hx hW))
  rw [hok] at HR
  unfold listsOk at hok
  simp only [Bool.and_eq_true, decide_eq_true_eq] at hok
  obtain ⟨⟨⟨h1, h2⟩, h3⟩, h4⟩ := hok
  have hfl : ∀ F ∈ Fs, (fillB F).length ≤ 70 := fun F hF => by
    obtain ⟨i, hi, rfl⟩ := List.getElem_of_mem hF
    obtain ⟨_, _, _, _, _, _, hg⟩ := hf.get
    obtain ⟨_, _, cs2, _, ⟨hf2, _⟩, _⟩ := hg i hi
    exact fillB_len (List.all_eq_true.1 h1 _ (List.getElem_mem hi)) hf2
  have hl1 := listB_len h3 h4 hfl
  have HF := Lib.hid (fun W (hW : Below w.heap.size w W) => pputfills_any ⟨#[]⟩ Fs fv W (by decide) (Sl.keep fill_lasts hf hW) h3 h1)
  have HX := Lib.hid (fun W (hW : Below w.heap.size w W) => pputlines_any (⟨#[]⟩ ++ bs (by1 Fs.length ++ Fs.flatMap fillB)) xs sv W (by rw [empty_bs, bs_size]; omega) (Sl.keep num5_lasts hx hW) h4 h2)
  have hl2 := flat_len lineB xs 6 fun x _ => lineB_len x
  have hl3 : xs.length * 6 ≤ 15 * 6 := Nat.mul_le_mul_right _ (by omega)
  have e2 : (⟨#[]⟩ : ByteArray) ++ bs (by1 Fs.length ++ Fs.flatMap fillB) ++ bs (by1 xs.length ++ xs.flatMap lineB) = bs (listB Fs xs) := by
    rw [empty_bs, bs_append]
    unfold listB
    simp only [List.append_assoc]
  rw [e2] at HX
  have hbz : (bs (listB Fs xs)).size ≤ 2000 := by
    have hl4 : (by1 xs.length ++ xs.flatMap lineB).length ≤ 100 := by
      rw [List.length_append]
      have : (by1 xs.length).length = 1 := rfl
      omega
    rw [← e2, empty_bs, ByteArray.size_append, bs_size, bs_size]
    omega
  have HB := Lib.hid (fun W => putbytes_any s (bs (listB Fs xs)) f W (by omega) (by omega))
  clear hf hx h1 h2 h3 h4 hfl hl1 hl2 hl3 hs hbz e2
  generalize (⟨#[]⟩ : ByteArray) ++ bs (by1 Fs.length ++ Fs.flatMap fillB) = b1 at *
  generalize s ++ bs (listB Fs xs) = t at *
  generalize bs (listB Fs xs) = b2 at *
  go_enter Try.func16, Try.ntmps16
  go_wp2_with (first
    | (refine wl_box 40 _ _ rfl rfl (show _ = Value.agg #[.string s, .int .i64 f] from rfl) ?_; intro W1 bw Bw_1 l1 k1; have gw : w.heap.size ≤ bw := l1; have Hw1 := k1; clear l1 k1)
    | (refine wl_alloc 40 _ zero40p rfl rfl ?_; intro W2 bo Bo_2 l2 k2; have go : w.heap.size ≤ bo := Nat.le_trans Hw1.size l2; have nwo : bw ≠ bo := Nat.ne_of_lt (Nat.lt_of_lt_of_le Bw_1.lt l2); have Bw_2 := Bw_1.keep k2; have Hw2 := bq_trans Hw1 k2; clear l2 k2 Bw_1 Hw1)
    | (go_at_call 18; (with_reducible refine (HR.out _ Hw2).mono ?_); rintro e W3 ⟨rfl, k3⟩; have Bw_3 := Bw_2.keep k3; have Bo_3 := Bo_2.keep k3; have Hw3 := bq_trans Hw2 k3; clear k3 Bw_2 Bo_2 Hw2)
    | (go_at_call 30; (with_reducible refine (HF.out _ Hw3).mono ?_); rintro e W4 ⟨rfl, k4⟩; have Bw_4 := Bw_3.keep k4; have Bo_4 := Bo_3.keep k4; have Hw4 := bq_trans Hw3 k4; clear k4 Bw_3 Bo_3 Hw3)
    | (refine wl_alloc 40 _ zero40p rfl rfl ?_; intro W5 bq Bq_5 l5 k5; have gq : w.heap.size ≤ bq := Nat.le_trans Hw4.size l5; have nwq : bw ≠ bq := Nat.ne_of_lt (Nat.lt_of_lt_of_le Bw_4.lt l5); have noq : bo ≠ bq := Nat.ne_of_lt (Nat.lt_of_lt_of_le Bo_4.lt l5); have Bw_5 := Bw_4.keep k5; have Bo_5 := Bo_4.keep k5; have Hw5 := bq_trans Hw4 k5; clear l5 k5 Bw_4 Bo_4 Hw4)
    | (refine wl_store 40 2 size40p _ _ rfl rfl _ rfl #[.string b1, .int .i64 0] rfl _ _ Bq_5 rfl rfl (by kernel_rfl) ?_; intro W6 Bq_6 T6; have Bw_6 := T6.blk Bw_5 nwq; have Bo_6 := T6.blk Bo_5 noq; have Hw6 := T6.below Hw5 gq; clear T6 Bw_5 Bo_5 Bq_5 Hw5)
    | (refine wl_load 40 2 _ Try.underlying40 rfl size40p _ rfl rfl _ rfl _ _ Bq_6 rfl ?_)
    | (go_at_call 32; (with_reducible refine (HX.out _ Hw6).mono ?_); rintro e W7 ⟨rfl, k7⟩; have Bw_7 := Bw_6.keep k7; have Bo_7 := Bo_6.keep k7; have Bq_7 := Bq_6.keep k7; have Hw7 := bq_trans Hw6 k7; clear k7 Bw_6 Bo_6 Bq_6 Hw6)
    | (refine wl_store 40 2 size40p _ _ rfl rfl _ rfl #[.string b2, .int .i64 0] rfl _ _ Bq_7 rfl rfl (by kernel_rfl) ?_; intro W8 Bq_8 T8; have Bw_8 := T8.blk Bw_7 nwq; have Bo_8 := T8.blk Bo_7 noq; have Hw8 := T8.below Hw7 gq; clear T8 Bw_7 Bo_7 Bq_7 Hw7; have cq_0_8 : W8.cell? ⟨bq, 0, none⟩ = some (.string b2) := Bq_8.cell 0)
    | (refine wl_load 40 2 _ Try.underlying40 rfl size40p _ rfl rfl _ rfl _ _ Bw_8 rfl ?_)
    | (go_at_call 34; (with_reducible refine (HB.out _).mono ?_); rintro e W9 ⟨rfl, k9⟩; have Bw_9 := Bw_8.keep k9; have Bo_9 := Bo_8.keep k9; have Bq_9 := Bq_8.keep k9; have Hw9 := bq_trans Hw8 k9; clear k9 Bw_8 Bo_8 Bq_8 cq_0_8 Hw8)
    | (refine wl_store 40 2 size40p _ _ rfl rfl _ rfl #[.string t, .int .i64 0] rfl _ _ Bo_9 rfl rfl (by kernel_rfl) ?_; intro W10 Bo_10 T10; have Bw_10 := T10.blk Bw_9 nwo; have Bq_10 := T10.blk Bq_9 (Ne.symm noq); have Hw10 := T10.below Hw9 go; clear T10 Bw_9 Bq_9 Bo_9 Hw9))
  exact post_cell_tmp (v := .int .i64 0) Try.underlying40 rfl size40p Try.results16 Bo_10 rfl rfl rfl rfl ⟨rfl, Hw10⟩
end Go.Proofs.Ythlnjipefeglpaa
