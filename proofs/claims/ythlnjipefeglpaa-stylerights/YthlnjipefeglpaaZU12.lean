import Derived.Test.YthlnjipefeglpaaZU11
import Derived.Test.YthlnjipefeglpaaZU9
import Derived.Test.YthlnjipefeglpaaZU7
import Derived.Test.YthlnjipefeglpaaZU8
namespace Go.Proofs.Ythlnjipefeglpaa
open Go.RowKit
set_option linter.unusedVariables false
theorem refputsigned_post {Q : Ending → World → Prop} {a : Act} {W : World} {g : Nat} {x y v : Value} (hbox : Box W g x y) (h6 : a.tmps[6]?.getD undef = .pointer (some ⟨g, 0, none⟩)) (h7 : a.tmps[7]?.getD undef = v)
    (hd : a.defers = []) (hQ : Q (.returned (.tuple #[.agg #[x, y], v])) W) : bodyPost Try.prog Try.f72 Q Exit.ret a W :=
  bodyPost_ret (v := .tuple #[.agg #[x, y], v]) (by simp [results, Try.results72, go_sem, h6, h7, hbox.1, hbox.2.1]) hd hQ
theorem refputsigned_bad (s : ByteArray) (f v n : Int) (w : World) (v0 : -9223372036854775808 ≤ v) (v1 : v ≤ 9223372036854775807) (h : n < 0 ∨ 31 < n ∨ n < wd v) :
    Calls Try.prog 72 #[.agg #[.string s, .int .i64 f], .int .i64 v, .int .i64 n] w fun e w' => e = .returned errF ∧ Below w.heap.size w w' := by
  have HH := Lib.hid (box2_now w (.string s) (.int .i64 f) (.string ⟨#[]⟩) (.int .i64 0) 97 97).2.2
  by_cases h0 : n < 0
  · clear h
    go_enter Try.func72, Try.ntmps72
    go_wp2_with fail
    exact bodyPost_ret (v := errF) (by simp [results, Try.results72, go_sem, errF]) rfl ⟨rfl, HH.out⟩
  · by_cases h1 : 31 < n
    · clear h
      go_enter Try.func72, Try.ntmps72
      go_wp2_with fail
      exact bodyPost_ret (v := errF) (by simp [results, Try.results72, go_sem, errF]) rfl ⟨rfl, HH.out⟩
    · have hv : n < wd v := by omega
      have HW := Lib.hid (fun w => refwidth_any v w v0 v1)
      generalize wd v = y at *
      clear h
      go_enter Try.func72, Try.ntmps72
      go_wp2_with (go_at_call 88; refine (HW.out _).mono ?_; rintro e w' ⟨rfl, rfl⟩)
      exact bodyPost_ret (v := errF) (by simp [results, Try.results72, go_sem, errF]) rfl ⟨rfl, HH.out⟩
theorem refputsigned_ok (s : ByteArray) (f v : Int) (u n : Nat) (w : World) (hs : s.size ≤ 1000000) (v0 : -9223372036854775808 ≤ v) (v1 : v ≤ 9223372036854775807) (hn : n ≤ 31) (hw : wd v ≤ n)
    (hu : u < B.P2 n) (HU : Hid (v < 0 ∧ v + B.P2 n = u ∨ 0 ≤ v ∧ v = u)) :
    Calls Try.prog 72 #[.agg #[.string s, .int .i64 f], .int .i64 v, .int .i64 n] w fun e w' => e = .returned (rpR s f u n) ∧ Below w.heap.size w w' := by
  have HP := fun w => refputplain_any s f u n w hs
  have e : ppOk u n = true := by simp [ppOk]; omega
  rw [e, if_pos rfl, Int.toNat_natCast, Int.toNat_natCast] at HP
  have HPP := Lib.hid HP
  have HW := Lib.hid (fun w => refwidth_any v w v0 v1)
  have HPW := Lib.hid (fun w => power_any n w (by omega))
  have hpb : B.P2 n ≤ 2147483648 := B.P2_le (b := 31) hn
  generalize wd v = y at *
  generalize B.P2 n = z at *
  clear HP e
  unfold rpR at *
  rcases HU.out with ⟨hv, hw2⟩ | ⟨hv, hw2⟩
  · have HW2 := Lib.hid hw2
    clear hw2 HU
    go_enter Try.func72, Try.ntmps72
    go_wp2_with (first | (go_at_call 88; refine (HW.out _).mono ?_; rintro e w' ⟨rfl, rfl⟩) | (go_at_call 82; refine (HPW.out _).mono ?_; rintro e w' ⟨rfl, rfl⟩))
    rw [HW2.out]
    refine (HPP.out _).mono ?_
    rintro e w1 ⟨rfl, hb1⟩
    obtain ⟨⟨c0, c1, f0, f1, cz⟩, ⟨d0, d1, g0, g1, hz⟩, H⟩ := box2_kept hb1
    have H1 := Lib.hid H
    clear hb1 H
    go_wp2_with fail
    exact refputsigned_post ((Box.set0 ⟨d0, d1, g0, g1, hz⟩ _).set1 _) rfl rfl rfl ⟨rfl, bq_set (bq_set H1.out _ (by simp) _) _ (by simp) _⟩
  · subst hw2
    clear HU
    go_enter Try.func72, Try.ntmps72
    go_wp2_with (go_at_call 88; refine (HW.out _).mono ?_; rintro e w' ⟨rfl, rfl⟩)
    refine (HPP.out _).mono ?_
    rintro e w1 ⟨rfl, hb1⟩
    obtain ⟨⟨c0, c1, f0, f1, cz⟩, ⟨d0, d1, g0, g1, hz⟩, H⟩ := box2_kept hb1
    have H1 := Lib.hid H
    clear hb1 H
    go_wp2_with fail
    exact refputsigned_post ((Box.set0 ⟨d0, d1, g0, g1, hz⟩ _).set1 _) rfl rfl rfl ⟨rfl, bq_set (bq_set H1.out _ (by simp) _) _ (by simp) _⟩
theorem refputsigned_any (s : ByteArray) (f v n : Int) (w : World) (hs : s.size ≤ 1000000) (v0 : -9223372036854775808 ≤ v) (v1 : v ≤ 9223372036854775807) :
    Calls Try.prog 72 #[.agg #[.string s, .int .i64 f], .int .i64 v, .int .i64 n] w fun e w' => e = .returned (if psOk v n = true then rpR s f (sgU v n.toNat) n.toNat else errF) ∧ Below w.heap.size w w' := by
  by_cases h : 0 ≤ n ∧ n ≤ 31 ∧ (wd v : Int) ≤ n
  · obtain ⟨N, rfl⟩ := Int.eq_ofNat_of_zero_le h.1
    have e : psOk v N = true := by simp [psOk]; omega
    rw [e, if_pos rfl]
    have hu := (sgU_lt v N v0 v1 (by omega) (by omega))
    refine refputsigned_ok s f v (sgU v N) N w hs v0 v1 (by omega) (by omega) hu.1 (Lib.hid ?_)
    unfold sgU
    by_cases hv : v < 0
    · left
      have := hu.2.1 hv
      rw [if_pos hv]
      omega
    · right
      rw [if_neg hv]
      omega
  · have e : psOk v n = false := by
      unfold psOk
      by_cases h1 : 0 ≤ n <;> by_cases h2 : n ≤ 31 <;> by_cases h3 : (wd v : Int) ≤ n <;> simp [h1, h2, h3] <;> exact absurd ⟨h1, h2, h3⟩ h
    rw [e]
    exact refputsigned_bad s f v n w v0 v1 (by omega)
def rlR (s : ByteArray) (v n : Nat) : Value := .tuple #[.agg #[.string (s ++ bs (B.le n v)), .int .i64 0], .bool true]
def RlRel (w : World) (s : ByteArray) (v n : Nat) (x i : Value) (wr : World) : Prop :=
  ∃ k : Nat, ∃ s' : ByteArray, k ≤ n ∧ i = .int .i64 (k : Int) ∧ x = .string s' ∧ s' = s ++ bs (B.le k v) ∧ Box wr (w.heap.size + 1) (.string ⟨#[]⟩) (.int .i64 0) ∧ Below w.heap.size w wr
end Go.Proofs.Ythlnjipefeglpaa
namespace Go.Proofs.Ythlnjipefeglpaa
open Go.RowKit
set_option linter.unusedVariables false
theorem size87 : (Try.prog.info? 97).map (·.size) = some 2 := by kernel_rfl
theorem zero87 (w : World) : (zeroValue 97).run Try.prog w = .ok (.agg #[.string ⟨#[]⟩, .int .i64 0]) w := Try.zeroValue97 w
theorem rpR_bys {fs : List (Nat × Nat)} {v n : Nat} (h : F.ok fs) (hv : v < B.P2 n) : rpR (bs (F.bys fs)) (F.fr fs : Int) v n = .tuple #[.agg (wrA (fs ++ [(v, n)])), .bool true] := by
  unfold rpR wrA
  rw [F.nf_bys h, bs_data, bs_size, (F.put h hv).1, (F.put h hv).2]
theorem refputplain_bys (fs : List (Nat × Nat)) (v n : Nat) (w : World) (h : F.ok fs) (hl : F.len fs ≤ 1000000) (hn : n ≤ 31) (hv : v < B.P2 n) :
    Calls Try.prog 70 #[.agg (wrA fs), .int .i64 v, .int .i64 n] w fun e w' => e = .returned (.tuple #[.agg (wrA (fs ++ [(v, n)])), .bool true]) ∧ Below w.heap.size w w' := by
  have hp := refputplain_any (bs (F.bys fs)) (F.fr fs : Int) (v : Int) (n : Int) w (by rw [bs_size, F.bys_len]; omega)
  rw [if_pos (by simp [ppOk]; omega), Int.toNat_natCast, Int.toNat_natCast, rpR_bys h hv] at hp
  exact hp
theorem refputsigned_bys (fs : List (Nat × Nat)) (v : Int) (n : Nat) (w : World) (h : F.ok fs) (hl : F.len fs ≤ 1000000) (hn : n ≤ 31) (hv : wd v ≤ n) (hb : I64 v) :
    Calls Try.prog 72 #[.agg (wrA fs), .int .i64 v, .int .i64 n] w fun e w' => e = .returned (.tuple #[.agg (wrA (fs ++ [(sgU v n, n)])), .bool true]) ∧ Below w.heap.size w w' := by
  have hp := refputsigned_any (bs (F.bys fs)) (F.fr fs : Int) v (n : Int) w (by rw [bs_size, F.bys_len]; omega) hb.1 hb.2
  rw [if_pos (by simp [psOk]; omega), Int.toNat_natCast, rpR_bys h (sgU_lt v n hb.1 hb.2 hn hv).1] at hp
  exact hp
set_option maxHeartbeats 1000000 in
theorem flag_any (fs : List (Nat × Nat)) (q : Bool) (w : World) (h : F.ok fs) (hl : F.len fs ≤ 1000000) :
    Calls Try.prog 53 #[.agg (wrA fs), .bool q] w fun e w' => e = .returned (.agg (wrA (fs ++ [(b01 q, 1)]))) ∧ Below w.heap.size w w' := by
  have HP := Lib.hid (fun w => refputplain_bys fs (b01 q) 1 w h hl (by omega) (b01_lt q))
  clear h hl
  cases q
  all_goals
    go_enter Try.func53, Try.ntmps53
    go_wp2_with (first
      | (refine wl_box 97 _ _ rfl rfl rfl ?_; intro W0 b0 B0 l0 k0)
      | (refine wl_alloc 97 _ zero87 rfl rfl ?_; intro W1 b1 B1 l1 k1; have B2 := B0.keep k1)
      | (refine wl_load 97 2 _ Try.underlying97 rfl size87 _ rfl rfl _ rfl _ _ B2 (wrA_size _) ?_)
      | (go_at_call 70; refine (HP.out _).mono ?_; rintro e w2 ⟨rfl, hb2⟩; have B3 := B2.keep hb2; have B4 := B1.keep hb2)
      | (refine wl_store 97 2 size87 _ _ rfl rfl _ rfl _ rfl _ _ B3 (wrA_size _) (wrA_size _) (wrA_one _) ?_; intro W5 B5 T5)
      | (refine wl_load 97 2 _ Try.underlying97 rfl size87 _ rfl rfl _ rfl _ _ B5 (wrA_size _) ?_)
      | (refine wl_store 97 2 size87 _ _ rfl rfl _ rfl _ rfl _ _ (T5.blk B4 (by have := B0.lt; omega)) rfl (wrA_size _) (wrA_one _) ?_; intro W6 B6 T6))
    exact post_cell Try.underlying97 rfl size87 Try.results53 B6 (wrA_size _) rfl rfl ⟨rfl, T6.below (T5.below (bq_trans (bq_trans k0 k1) hb2) l0) (by have := k0.size; omega)⟩
def RwRel (zs : List Int) (m i : Value) : Prop := ∃ k x : Nat, k ≤ zs.length ∧ i = .int .i64 k ∧ m = .int .i64 (x : Int) ∧ x = mxW (zs.take k) ∧ x ≤ 64
set_option maxHeartbeats 1000000 in
theorem refwidths_ints (zs : List Int) (a : Option Addr) (b o c : Nat) (w : World) (hl : zs.length ≤ 1000000) (ha : Hid (Ints w zs a b o)) :
    Calls Try.prog 71 #[.slice a zs.length c] w fun e w' => e = .returned (.int .i64 (mxW zs : Int)) ∧ w = w' := by
  go_enter Try.func71, Try.ntmps71
  go_wp2
  go_loop [3, 4] (fun m i => RwRel zs m i) (fun _ i => zs.length - (intOf i).toNat)
  case atStart => exact ⟨0, 0, by omega, rfl, rfl, rfl, by omega⟩
  case round =>
    obtain ⟨k, x, hk, rfl, rfl, hx, hx2⟩ := hrel
    have HX := Lib.hid hx
    clear hx
    by_cases hlt : k < zs.length
    · obtain ⟨rfl, z0, z1, hcell⟩ := ha.out.at (bq_refl w) k hlt
      have hstep := mxW_take zs k hlt
      rw [← HX.out] at hstep
      generalize zs[k] = z at *
      have hw64 := wd_le z z0 z1
      have HW := Lib.hid (fun w => refwidth_any z w z0 z1)
      generalize wd z = y at *
      by_cases hc : x < y
      · have HS : Hid (mxW (zs.take (k + 1)) = y) := Lib.hid (by rw [hstep]; omega)
        clear hstep
        go_wp2_with (go_at_call 88; refine (HW.out _).mono ?_; rintro e w' ⟨rfl, rfl⟩)
        go_round
        case rel => exact ⟨k + 1, y, by omega, by go_num, rfl, HS.out.symm, by omega⟩
        case measure => simp [intOf]; omega
      · have HS : Hid (mxW (zs.take (k + 1)) = x) := Lib.hid (by rw [hstep]; omega)
        clear hstep
        go_wp2_with (go_at_call 88; refine (HW.out _).mono ?_; rintro e w' ⟨rfl, rfl⟩)
        go_round
        case rel => exact ⟨k + 1, x, by omega, by go_num, rfl, HS.out.symm, by omega⟩
        case measure => simp [intOf]; omega
    · obtain rfl : k = zs.length := by omega
      have HL : Hid (mxW zs = x) := Lib.hid (by rw [HX.out, List.take_length])
      go_wp2
      go_ret
      exact ⟨ret_int (by rw [HL.out]), rfl⟩
def RnRel (w : World) (fs : List (Nat × Nat)) (h : Nat) (l : List Int) (b0 b1 : Nat) (i : Value) (wr : World) : Prop :=
  ∃ k : Nat, k ≤ l.length ∧ i = .int .i64 k ∧ Blk wr b0 (wrA (fs ++ (F.nums h l).take (k + 1))) 97 ∧ Blk wr b1 #[.string ⟨#[]⟩, .int .i64 0] 97 ∧ Below w.heap.size w wr
set_option maxHeartbeats 2000000 in
theorem refnumbers_any (fs : List (Nat × Nat)) (h : Nat) (l : List Int) (a : Option Addr) (b o c : Nat) (w : World) (hf : F.ok fs) (hl : F.len fs + F.len (F.nums h l) ≤ 1000000) (hh : h ≤ 31) (h1 : mxW l < B.P2 h) (h2 : mxW l ≤ 31) (hn : l.length ≤ 1000000) (ha : Hid (Ints w l a b o)) :
    Calls Try.prog 54 #[.agg (wrA fs), .int .i64 h, .slice a l.length c] w fun e w' => e = .returned (.agg (wrA (fs ++ F.nums h l))) ∧ Below w.heap.size w w' := by
  have hok : F.ok (F.nums h l) := F.nums_ok h1 h2 fun v hv => by
    obtain ⟨i, hi, rfl⟩ := List.getElem_of_mem hv
    exact ha.out.2.1 i hi
  have HW := Lib.hid (fun W (k : Below w.heap.size w W) => refwidths_ints l a b o c W hn (Lib.hid (ha.out.keep k)))
  have HP := Lib.hid (fun W => refputplain_bys fs (mxW l) h W hf (by omega) hh h1)
  have HS : Hid (∀ k (hk : k < l.length) W w0, Below W.heap.size W w0 → Calls Try.prog 72 #[.agg (wrA (fs ++ (F.nums h l).take (k + 1))), .int .i64 l[k], .int .i64 (mxW l)] w0 fun e w' => e = .returned (.tuple #[.agg (wrA (fs ++ (F.nums h l).take (k + 1 + 1))), .bool true]) ∧ Below W.heap.size W w') := Lib.hid fun k hk W w0 hw0 => by
    have hb := ha.out.2.1 k hk
    have h3 := len_take_le fs (F.nums h l) (k + 1)
    rw [← nums_step fs h l k hk]
    exact (refputsigned_bys _ l[k] (mxW l) w0 (F.ok_app hf (F.ok_take hok _)) (by omega) h2 (F.mxW_mem (List.getElem_mem hk)) hb).mono fun e w' ⟨h1, h2⟩ => ⟨h1, bq_trans hw0 h2⟩
  have HE : Hid (fs ++ F.nums h l = fs ++ (F.nums h l).take (l.length + 1)) := Lib.hid (by rw [F.nums_all])
  have H0 : Hid (fs ++ [(mxW l, h)] = fs ++ (F.nums h l).take (0 + 1)) := Lib.hid (by unfold F.nums; rfl)
  rw [H0.out] at HP
  rw [HE.out]
  clear hok hf hl hh h1 HE H0
  generalize mxW l = m at *
  go_enter Try.func54, Try.ntmps54
  go_wp2_with (first
    | (refine wl_box 97 _ _ rfl rfl rfl ?_; intro W0 b0 B0 l0 k0)
    | (refine wl_alloc 97 _ zero87 rfl rfl ?_; intro W1 b1 B1 l1 k1; have B2 := B0.keep k1)
    | (go_at_call 71; refine (HW.out _ (bq_trans k0 k1)).mono ?_; rintro e w1 ⟨rfl, rfl⟩)
    | (refine wl_load 97 2 _ Try.underlying97 rfl size87 _ rfl rfl _ rfl _ _ B2 (wrA_size _) ?_)
    | (go_at_call 70; refine (HP.out _).mono ?_; rintro e w2 ⟨rfl, hb2⟩; have B3 := B2.keep hb2; have B4 := B1.keep hb2)
    | (refine wl_store 97 2 size87 _ _ rfl rfl _ rfl _ rfl _ _ B3 (wrA_size _) (wrA_size _) (wrA_one _) ?_; intro W5 B5 T5))
  have n01 : b0 ≠ b1 := by have := B0.lt; omega
  have g0 : w.heap.size ≤ b0 := l0
  have g1 : w.heap.size ≤ b1 := by have := k0.size; omega
  have C1 := T5.blk B4 (Ne.symm n01)
  have HB := Lib.hid (T5.below (bq_trans (bq_trans k0 k1) hb2) l0)
  clear B0 B1 B2 B3 B4 T5 k0 k1 hb2 l0 l1 HW HP
  go_loopw [8] (fun i wr => RnRel w fs h l b0 b1 i wr) (fun i _ => l.length - (intOf i).toNat)
  case atStart => exact ⟨0, by omega, rfl, B5, C1, HB.out⟩
  case round =>
    obtain ⟨k, hk, rfl, D0, D1, hbel⟩ := hrel
    have HB2 := Lib.hid hbel
    clear hbel B5 C1 HB
    by_cases hlt : k < l.length
    · obtain ⟨rfl, z0, z1, hcell⟩ := ha.out.at HB2.out k hlt
      have HI := Lib.hid (ha.out.keep HB2.out)
      have HS2 := Lib.hid (fun w0 h0 => HS.out k hlt wr w0 h0)
      have HC : Hid (∀ w', Below wr.heap.size wr w' → w'.cell? ⟨b, o + k, none⟩ = some (.int .i64 l[k]) ∧ w'.cell? ⟨b0, 0, none⟩ = some (.string (bs (F.bys (fs ++ (F.nums h l).take (k + 1))))) ∧ w'.cell? ⟨b0, 1, none⟩ = some (.int .i64 (F.fr (fs ++ (F.nums h l).take (k + 1)) : Int)) ∧ w'.frozen? ⟨b0, 0, none⟩ = false ∧ w'.frozen? ⟨b0, 1, none⟩ = false) := Lib.hid fun w' hw' => ⟨(HI.out.keep hw').2.2 k hlt, (D0.keep hw').cell 0, (D0.keep hw').cell 1, (D0.keep hw').frozen 0, (D0.keep hw').frozen 1⟩
      have hd0 : Below wr.heap.size wr wr.drew := bq_drew (bq_refl wr)
      have HD0 := Lib.hid D0
      have HD1 := Lib.hid D1
      clear D0 D1 HI
      generalize hz : l[k] = z at *
      clear hz
      unfold wrA at HS2
      generalize bs (F.bys (fs ++ (F.nums h l).take (k + 1))) = u at *
      generalize (F.fr (fs ++ (F.nums h l).take (k + 1)) : Int) = v at *
      go_wp2_with fail
      have hc0 := HC.out _ (bq_refl wr)
      obtain ⟨q0, q1, q2, q3, q4⟩ := hc0
      go_region_with (first | (go_at_call 72; refine (HS2.out _ (by assumption)).mono ?_; rintro e w9 ⟨rfl, hb9⟩; obtain ⟨q5, q6, q7, q8, q9⟩ := HC.out _ hb9))
      all_goals
        have B8 : Blk ((w9.setCell ⟨b0, 0, none⟩ (.string (bs (F.bys (fs ++ (F.nums h l).take (k + 1 + 1)))))).setCell ⟨b0, 1, none⟩ (.int .i64 (F.fr (fs ++ (F.nums h l).take (k + 1 + 1)) : Int))) b0 (wrA (fs ++ (F.nums h l).take (k + 1 + 1))) 97 := ((HD0.out.keep hb9).set 0 _).set 1 _
        have E1 : Blk ((w9.setCell ⟨b0, 0, none⟩ (.string (bs (F.bys (fs ++ (F.nums h l).take (k + 1 + 1)))))).setCell ⟨b0, 1, none⟩ (.int .i64 (F.fr (fs ++ (F.nums h l).take (k + 1 + 1)) : Int))) b1 #[.string ⟨#[]⟩, .int .i64 0] 97 := ((HD1.out.keep hb9).other _ (Ne.symm n01)).other _ (Ne.symm n01)
        have HB3 := Lib.hid (bq_set (bq_set (bq_trans HB2.out hb9) ⟨b0, 0, none⟩ g0 (.string (bs (F.bys (fs ++ (F.nums h l).take (k + 1 + 1)))))) ⟨b0, 1, none⟩ g0 (.int .i64 (F.fr (fs ++ (F.nums h l).take (k + 1 + 1)) : Int)))
        generalize (w9.setCell ⟨b0, 0, none⟩ (.string (bs (F.bys (fs ++ (F.nums h l).take (k + 1 + 1)))))).setCell ⟨b0, 1, none⟩ (.int .i64 (F.fr (fs ++ (F.nums h l).take (k + 1 + 1)) : Int)) = W9 at *
        go_wp2
        go_roundw
        case rel => exact ⟨k + 1, by omega, by go_num, B8, E1, HB3.out⟩
        case measure => simp [intOf]; omega
    · obtain rfl : k = l.length := by omega
      go_wp2_with (first
        | (refine wl_load 97 2 _ Try.underlying97 rfl size87 _ rfl rfl _ rfl _ _ D0 (wrA_size _) ?_)
        | (refine wl_store 97 2 size87 _ _ rfl rfl _ rfl _ rfl _ _ D1 rfl (wrA_size _) (wrA_one _) ?_; intro W8 B8 T8))
      exact post_cell Try.underlying97 rfl size87 Try.results54 B8 (wrA_size _) rfl rfl ⟨rfl, T8.below HB2.out g1⟩
end Go.Proofs.Ythlnjipefeglpaa
namespace Go.Proofs.Ythlnjipefeglpaa
open Go.RowKit
set_option linter.unusedVariables false
theorem But.drw {p q : Nat} {w w' : World} (h : But p q w w') : But p q w w'.drew := ⟨h.os, h.tape, h.output, h.size, h.block⟩
end Go.Proofs.Ythlnjipefeglpaa
namespace Go.Proofs.Ythlnjipefeglpaa
open Go.RowKit
set_option linter.unusedVariables false
section
variable {ops : Array Oper} {rest : List Oper} {o : Oper} {a : Act} {w : World} {Q : Exit → Act → World → Prop}
end
def fillN (N : Nat) (l : List Int) : List Int := l ++ List.replicate (N - l.length) 0
def SvRel (w : World) (y : RS) (n : Int) (N bx bo bg : Nat) (i : Value) (wr : World) : Prop :=
  ∃ k : Nat, k ≤ N ∧ i = .int .i64 k ∧ Blk wr bx (y.on n k).cells 53 ∧ Blk wr bg (iA (fillN N (y.l n k))) 3 ∧ Blk wr bo #[.string ⟨#[]⟩, .int .i64 0, .int .i64 0] 53 ∧ Below w.heap.size w wr
theorem size3s : (Try.prog.info? 3).map (·.size) = some 1 := by kernel_rfl
end Go.Proofs.Ythlnjipefeglpaa
namespace Go.Proofs.Ythlnjipefeglpaa
open Go.RowKit
set_option linter.unusedVariables false
end Go.Proofs.Ythlnjipefeglpaa
namespace Go.Proofs.Ythlnjipefeglpaa
open Go.RowKit
set_option linter.unusedVariables false
end Go.Proofs.Ythlnjipefeglpaa
namespace Go.Proofs.Ythlnjipefeglpaa
open Go.RowKit
set_option linter.unusedVariables false
end Go.Proofs.Ythlnjipefeglpaa
namespace Go.Proofs.Ythlnjipefeglpaa
open Go.RowKit
set_option linter.unusedVariables false
end Go.Proofs.Ythlnjipefeglpaa
namespace Go.Proofs.Ythlnjipefeglpaa
open Go.RowKit
set_option linter.unusedVariables false
end Go.Proofs.Ythlnjipefeglpaa
namespace Go.Proofs.Ythlnjipefeglpaa
open Go.RowKit
set_option linter.unusedVariables false
def mixL (g d : List Int) (k : Nat) : List Int := g.take k ++ d.drop k
end Go.Proofs.Ythlnjipefeglpaa
namespace Go.Proofs.Ythlnjipefeglpaa
open Go.RowKit
set_option linter.unusedVariables false
end Go.Proofs.Ythlnjipefeglpaa
namespace Go.Proofs.Ythlnjipefeglpaa
open Go.RowKit
set_option linter.unusedVariables false
end Go.Proofs.Ythlnjipefeglpaa
namespace Go.Proofs.Ythlnjipefeglpaa
open Go.RowKit
set_option linter.unusedVariables false
end Go.Proofs.Ythlnjipefeglpaa
namespace Go.Proofs.Ythlnjipefeglpaa
open Go.RowKit
set_option linter.unusedVariables false
end Go.Proofs.Ythlnjipefeglpaa
