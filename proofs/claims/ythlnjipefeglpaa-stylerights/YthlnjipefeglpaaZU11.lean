import Derived.Test.YthlnjipefeglpaaZU10
namespace Go.Proofs.Ythlnjipefeglpaa
open Go.RowKit
set_option linter.unusedVariables false
theorem refputplain_post {Q : Ending → World → Prop} {a : Act} {W : World} {g : Nat} {x y v : Value} (hbox : Box W g x y) (h6 : a.tmps[6]?.getD undef = .pointer (some ⟨g, 0, none⟩)) (h7 : a.tmps[7]?.getD undef = v)
    (hd : a.defers = []) (hQ : Q (.returned (.tuple #[.agg #[x, y], v])) W) : bodyPost Try.prog Try.f70 Q Exit.ret a W :=
  bodyPost_ret (v := .tuple #[.agg #[x, y], v]) (by simp [results, Try.results70, go_sem, h6, h7, hbox.1, hbox.2.1]) hd hQ
def errF : Value := .tuple #[.agg #[.string ⟨#[]⟩, .int .i64 0], .bool false]
def rpR (s : ByteArray) (f : Int) (v n : Nat) : Value := .tuple #[.agg #[.string (bs (B.putL s.data.toList (nf s f) v n)), .int .i64 (B.putF s.size (nf s f) n : Int)], .bool true]
theorem refputplain_bad (s : ByteArray) (f v n : Int) (w : World) (h : n < 0 ∨ 31 < n ∨ v < 0) :
    Calls Try.prog 70 #[.agg #[.string s, .int .i64 f], .int .i64 v, .int .i64 n] w fun e w' => e = .returned errF ∧ Below w.heap.size w w' := by
  have HH := Lib.hid (box2_now w (.string s) (.int .i64 f) (.string ⟨#[]⟩) (.int .i64 0) 97 97).2.2
  rcases h with h | h
  · go_enter Try.func70, Try.ntmps70
    go_wp2_with fail
    exact bodyPost_ret (v := errF) (by simp [results, Try.results70, go_sem, errF]) rfl ⟨rfl, HH.out⟩
  · by_cases h0 : n < 0
    · go_enter Try.func70, Try.ntmps70
      go_wp2_with fail
      exact bodyPost_ret (v := errF) (by simp [results, Try.results70, go_sem, errF]) rfl ⟨rfl, HH.out⟩
    · by_cases h1 : 31 < n
      · go_enter Try.func70, Try.ntmps70
        go_wp2_with fail
        exact bodyPost_ret (v := errF) (by simp [results, Try.results70, go_sem, errF]) rfl ⟨rfl, HH.out⟩
      · have hv : v < 0 := by omega
        clear h
        go_enter Try.func70, Try.ntmps70
        go_wp2_with fail
        exact bodyPost_ret (v := errF) (by simp [results, Try.results70, go_sem, errF]) rfl ⟨rfl, HH.out⟩
theorem refputplain_over (s : ByteArray) (f : Int) (v n : Nat) (w : World) (hn : n ≤ 31) (hv : B.P2 n ≤ v) :
    Calls Try.prog 70 #[.agg #[.string s, .int .i64 f], .int .i64 v, .int .i64 n] w fun e w' => e = .returned errF ∧ Below w.heap.size w w' := by
  have HH := Lib.hid (box2_now w (.string s) (.int .i64 f) (.string ⟨#[]⟩) (.int .i64 0) 97 97).2.2
  have HP := Lib.hid (fun w => power_any n w (by omega))
  generalize B.P2 n = y at *
  go_enter Try.func70, Try.ntmps70
  go_wp2_with (go_at_call 82; refine (HP.out _).mono ?_; rintro e w' ⟨rfl, rfl⟩)
  exact bodyPost_ret (v := errF) (by simp [results, Try.results70, go_sem, errF]) rfl ⟨rfl, HH.out⟩
def RpRel (w : World) (l : List UInt8) (f v n : Nat) (i : Value) (wr : World) : Prop :=
  ∃ k : Nat, ∃ s' : ByteArray, ∃ f' : Nat, k ≤ n ∧ i = .int .i64 ((n : Int) - 1 - (k : Int)) ∧ s' = bs (B.putL l f (v / B.P2 (n - k)) k) ∧ f' = B.putF l.length f k ∧
    Box wr w.heap.size (.string s') (.int .i64 (f' : Int)) ∧ Box wr (w.heap.size + 1) (.string ⟨#[]⟩) (.int .i64 0) ∧ Below w.heap.size w wr
theorem bit_step (l : List UInt8) (f v n k : Nat) (hk : k < n) (hv : v < B.P2 n) (hf : f ≤ 8 * l.length) :
    B.putL (B.putL l f (v / B.P2 (n - k)) k) (B.putF l.length f k) (v / B.P2 (n - 1 - k) % 2) 1 = B.putL l f (v / B.P2 (n - (k + 1))) (k + 1) := by
  have hu : v / B.P2 (n - k) < B.P2 k := B.div_lt (by rw [show n - k + k = n by omega]; exact hv)
  rw [B.putL_comp l f _ k (v / B.P2 (n - 1 - k) % 2) 1 hf hu (show _ < 2 from Nat.mod_lt _ (by omega))]
  congr 1
  have e : v / B.P2 (n - k) = v / B.P2 (n - 1 - k) / 2 := by rw [half_div, show n - 1 - k + 1 = n - k by omega]
  rw [e, show n - (k + 1) = n - 1 - k by omega]
  show v / B.P2 (n - 1 - k) / 2 * 2 + v / B.P2 (n - 1 - k) % 2 = _
  omega
theorem bit_snd (l : List UInt8) (f v n k : Nat) (hk : k ≤ n) (hv : v < B.P2 n) (hf : f ≤ 8 * l.length) : B.Snd (B.putL l f (v / B.P2 (n - k)) k) (B.putF l.length f k) :=
  B.putL_snd l f _ k hf (B.div_lt (by rw [show n - k + k = n by omega]; exact hv))
theorem last_val (c : UInt8) (y : Nat) : (wrap64 (c.toNat : Int)).tmod (y : Int) = ((c.toNat % y : Nat) : Int) := by
  have hc := c.toNat_lt
  rw [i64_id (c.toNat : Int) (by omega) (by omega), Int.tmod_eq_emod_of_nonneg (by omega)]
  push_cast
  rfl
theorem bit_val (v y : Nat) (hv : v < 2147483648) : ((v / y % 2 : Nat) : Int) = (wrap64 ((v : Int) / (y : Int))).tmod 2 := by
  have hdv : v / y ≤ v := Nat.div_le_self _ _
  rw [show (v : Int) / (y : Int) = ((v / y : Nat) : Int) by push_cast; rfl]
  generalize v / y = d at *
  rw [i64_id (d : Int) (by omega) (by omega), Int.tmod_eq_emod_of_nonneg (by omega)]
  omega
set_option maxHeartbeats 2000000 in
theorem refputplain_neg (s : ByteArray) (f : Int) (v n : Nat) (w : World) (hs : s.size ≤ 1000000) (hn : n ≤ 31) (hv : v < B.P2 n) (hf : f < 0) (hnf : nf s f = 0) :
    Calls Try.prog 70 #[.agg #[.string s, .int .i64 f], .int .i64 v, .int .i64 n] w fun e w' => e = .returned (rpR s f v n) ∧ Below w.heap.size w w' := by
  have HP := Lib.hid (fun w => power_any n w (by omega))
  have HV := Lib.hid hv
  have hv31 : v < 2147483648 := Nat.lt_of_lt_of_le hv (B.P2_le (b := 31) hn)
  obtain ⟨C, D, H⟩ := box2_now w (.string s) (.int .i64 f) (.string ⟨#[]⟩) (.int .i64 0) 97 97
  have fb1 : decide (f < 0) = true := by simp; omega
  have HNF := Lib.hid hnf
  have p1 : decide ((n : Int) < 0) = false := by simp
  have p2 : decide (31 < (n : Int)) = false := by simp; omega
  have p3 : decide ((v : Int) < 0) = false := by simp
  have p4 : decide (B.P2 n ≤ v) = false := by simp; omega
  clear hnf
  go_enter Try.func70, Try.ntmps70
  go_upto_region 3 with (go_at_call 82; refine (HP.out _).mono ?_; rintro e w' ⟨rfl, rfl⟩)
  generalize (w.alloc (.cells #[.string s, .int .i64 f] 97)).alloc (.cells #[.string ⟨#[]⟩, .int .i64 0] 97) = w1 at C D H ⊢
  have C1 := Lib.hid (Box.set1 (Box.drewN C 1) (.int .i64 0))
  obtain ⟨c0, c1, f0, f1, cz⟩ := C
  have HD := Lib.hid D
  have H1 := Lib.hid H
  clear D H
  go_quiet ((fail))
  go_upto_region 5 with (fail)
  have C2 := Lib.hid (Box.set1 (Box.drewN ⟨c0, c1, f0, f1, cz⟩ nq) (.int .i64 0))
  have D2 := Lib.hid (Box.far (HD.out.drewN nq) (a := ⟨w.heap.size, 1, none⟩) (by simp) (.int .i64 0))
  have H2 := Lib.hid (bq_set (bq_drewN H1.out nq) ⟨w.heap.size, 1, none⟩ (by simp) (.int .i64 0))
  clear C1 c0 c1 f0 f1 cz HD H1
  generalize (w1.drewN nq).setCell ⟨w.heap.size, 1, none⟩ (.int .i64 0) = W at C2 D2 H2 ⊢
  have hloop : 0 ≤ 8 * s.data.toList.length := Nat.zero_le _
  have HF := Lib.hid hloop
  clear hloop
  go_wp2_with fail
  go_loopw [8] (fun i wr => RpRel w s.data.toList 0 v n i wr) (fun i _ => (intOf i + 1).toNat)
  case atStart => exact ⟨0, s, 0, by omega, by simp, by rw [Nat.sub_zero, Nat.div_eq_of_lt HV.out, B.putL_nil _ _ (show B.Snd s.data.toList 0 from ⟨by omega, by omega, by rw [B.P2_zero, Nat.mod_one]⟩), bs_of], by rw [B.putF_nil _ _ (show B.Snd s.data.toList 0 from ⟨by omega, by omega, by rw [B.P2_zero, Nat.mod_one]⟩).1 HF.out], C2.out, D2.out, H2.out⟩
  case round =>
    obtain ⟨k, s', f', hk, rfl, hs', hf', hc, hd, hbel⟩ := hrel
    have hsz : s'.size ≤ 1099511627776 := by rw [hs', bs_size, B.putL_len]; unfold B.putN; rw [bytes_length]; omega
    by_cases hlt : k < n
    · have hsnd : B.Snd s'.data.toList f' := by rw [hs', hf', bs_data]; exact bit_snd _ _ _ _ _ (by omega) HV.out HF.out
      have hstep := bit_step s.data.toList 0 v n k hlt HV.out HF.out
      rw [← bs_data (B.putL s.data.toList 0 (v / B.P2 (n - k)) k), ← hs', ← hf'] at hstep
      have hpf : B.putF s'.size f' 1 = B.putF s.data.toList.length 0 (k + 1) := by
        rw [hs', bs_size, B.putL_len, hf', B.putF_comp _ _ _ _ HF.out]
      have HPW := fun w => power_any (n - 1 - k) w (by omega)
      rw [show ((n - 1 - k : Nat) : Int) = (n : Int) - 1 - (k : Int) by omega] at HPW
      have hpos := B.P2_pos (n - 1 - k)
      have hpb : B.P2 (n - 1 - k) ≤ 2147483648 := B.P2_le (b := 31) (by omega)
      have hbl : v / B.P2 (n - 1 - k) % 2 < 2 := Nat.mod_lt _ (by omega)
      have HPUT := fun w => refput_any s' f' (v / B.P2 (n - 1 - k) % 2) w hsz hbl hsnd
      have HST := Lib.hid (And.intro hstep hpf)
      generalize B.P2 (n - 1 - k) = y at *
      have hq := bit_val v y hv31
      rw [hq] at HPUT
      have HPUT2 := Lib.hid HPUT
      have yz : ((y : Int) == 0) = false := by rw [beq_eq_false_iff_ne]; omega
      have HPW2 := Lib.hid HPW
      obtain ⟨c0, c1, f0, f1, cz⟩ := hc
      have HD := Lib.hid hd
      have HBEL := Lib.hid hbel
      clear hs' hf' hsnd hstep hpf HPW hq hd hbel HPUT hbl
      go_wp2_with fail
      go_region_with (first | (go_at_call 82; ((with_reducible refine (HPW2.out _).mono ?_); rintro e w' ⟨rfl, rfl⟩)) | (go_at_call 87; ((with_reducible refine (HPUT2.out _).mono ?_); rintro e w2 ⟨rfl, hb2⟩; have HB2 := Lib.hid hb2; obtain ⟨q0, q1, r0, r1, qz⟩ := Box.keep (Box.drewN ⟨c0, c1, f0, f1, cz⟩ 1) hb2; clear hb2)))
      all_goals
        go_wp2
        go_roundw
        case rel =>
          exact ⟨k + 1, _, _, by omega, by go_num, congrArg bs HST.out.1, HST.out.2, (Box.set0 ⟨q0, q1, r0, r1, qz⟩ _).set1 _, ((HD.out.drew.keep HB2.out).far (by simp) _).far (by simp) _, bq_set (bq_set (bq_trans (bq_drew HBEL.out) HB2.out) _ (by simp) _) _ (by simp) _⟩
        case measure => simp [intOf]; omega
    · obtain rfl : k = n := by omega
      have HS' : Hid (s' = bs (B.putL s.data.toList 0 v k)) := Lib.hid (by rw [hs', Nat.sub_self, B.P2_zero, Nat.div_one])
      have HF' : Hid (f' = B.putF s.size 0 k) := Lib.hid (by rw [hf', bytes_length])
      obtain ⟨c0, c1, f0, f1, cz⟩ := hc
      obtain ⟨d0, d1, g0, g1, hz⟩ := hd
      have HBEL := Lib.hid hbel
      clear hs' hf' hbel
      go_wp2
      exact refputplain_post ((Box.set0 ⟨d0, d1, g0, g1, hz⟩ _).set1 _) rfl rfl rfl ⟨by rw [rpR, HNF.out, HS'.out, HF'.out]; rfl, bq_set (bq_set HBEL.out _ (by simp) _) _ (by simp) _⟩
set_option maxHeartbeats 2000000 in
theorem refputplain_big (s : ByteArray) (f : Int) (v n : Nat) (w : World) (hs : s.size ≤ 1000000) (hn : n ≤ 31) (hv : v < B.P2 n) (hf : 7 < f) (hnf : nf s f = 0) :
    Calls Try.prog 70 #[.agg #[.string s, .int .i64 f], .int .i64 v, .int .i64 n] w fun e w' => e = .returned (rpR s f v n) ∧ Below w.heap.size w w' := by
  have HP := Lib.hid (fun w => power_any n w (by omega))
  have HV := Lib.hid hv
  have hv31 : v < 2147483648 := Nat.lt_of_lt_of_le hv (B.P2_le (b := 31) hn)
  obtain ⟨C, D, H⟩ := box2_now w (.string s) (.int .i64 f) (.string ⟨#[]⟩) (.int .i64 0) 97 97
  have fb1 : decide (f < 0) = false := by simp; omega
  have fb2 : decide (7 < f) = true := by simp; omega
  have HNF := Lib.hid hnf
  have p1 : decide ((n : Int) < 0) = false := by simp
  have p2 : decide (31 < (n : Int)) = false := by simp; omega
  have p3 : decide ((v : Int) < 0) = false := by simp
  have p4 : decide (B.P2 n ≤ v) = false := by simp; omega
  clear hnf
  go_enter Try.func70, Try.ntmps70
  go_upto_region 3 with (go_at_call 82; refine (HP.out _).mono ?_; rintro e w' ⟨rfl, rfl⟩)
  generalize (w.alloc (.cells #[.string s, .int .i64 f] 97)).alloc (.cells #[.string ⟨#[]⟩, .int .i64 0] 97) = w1 at C D H ⊢
  have C1 := Lib.hid (Box.set1 (Box.drewN C 1) (.int .i64 0))
  obtain ⟨c0, c1, f0, f1, cz⟩ := C
  have HD := Lib.hid D
  have H1 := Lib.hid H
  clear D H
  go_quiet ((fail))
  go_upto_region 5 with (fail)
  have C2 := Lib.hid (Box.set1 (Box.drewN ⟨c0, c1, f0, f1, cz⟩ nq) (.int .i64 0))
  have D2 := Lib.hid (Box.far (HD.out.drewN nq) (a := ⟨w.heap.size, 1, none⟩) (by simp) (.int .i64 0))
  have H2 := Lib.hid (bq_set (bq_drewN H1.out nq) ⟨w.heap.size, 1, none⟩ (by simp) (.int .i64 0))
  clear C1 c0 c1 f0 f1 cz HD H1
  generalize (w1.drewN nq).setCell ⟨w.heap.size, 1, none⟩ (.int .i64 0) = W at C2 D2 H2 ⊢
  have hloop : 0 ≤ 8 * s.data.toList.length := Nat.zero_le _
  have HF := Lib.hid hloop
  clear hloop
  go_wp2_with fail
  go_loopw [8] (fun i wr => RpRel w s.data.toList 0 v n i wr) (fun i _ => (intOf i + 1).toNat)
  case atStart => exact ⟨0, s, 0, by omega, by simp, by rw [Nat.sub_zero, Nat.div_eq_of_lt HV.out, B.putL_nil _ _ (show B.Snd s.data.toList 0 from ⟨by omega, by omega, by rw [B.P2_zero, Nat.mod_one]⟩), bs_of], by rw [B.putF_nil _ _ (show B.Snd s.data.toList 0 from ⟨by omega, by omega, by rw [B.P2_zero, Nat.mod_one]⟩).1 HF.out], C2.out, D2.out, H2.out⟩
  case round =>
    obtain ⟨k, s', f', hk, rfl, hs', hf', hc, hd, hbel⟩ := hrel
    have hsz : s'.size ≤ 1099511627776 := by rw [hs', bs_size, B.putL_len]; unfold B.putN; rw [bytes_length]; omega
    by_cases hlt : k < n
    · have hsnd : B.Snd s'.data.toList f' := by rw [hs', hf', bs_data]; exact bit_snd _ _ _ _ _ (by omega) HV.out HF.out
      have hstep := bit_step s.data.toList 0 v n k hlt HV.out HF.out
      rw [← bs_data (B.putL s.data.toList 0 (v / B.P2 (n - k)) k), ← hs', ← hf'] at hstep
      have hpf : B.putF s'.size f' 1 = B.putF s.data.toList.length 0 (k + 1) := by
        rw [hs', bs_size, B.putL_len, hf', B.putF_comp _ _ _ _ HF.out]
      have HPW := fun w => power_any (n - 1 - k) w (by omega)
      rw [show ((n - 1 - k : Nat) : Int) = (n : Int) - 1 - (k : Int) by omega] at HPW
      have hpos := B.P2_pos (n - 1 - k)
      have hpb : B.P2 (n - 1 - k) ≤ 2147483648 := B.P2_le (b := 31) (by omega)
      have hbl : v / B.P2 (n - 1 - k) % 2 < 2 := Nat.mod_lt _ (by omega)
      have HPUT := fun w => refput_any s' f' (v / B.P2 (n - 1 - k) % 2) w hsz hbl hsnd
      have HST := Lib.hid (And.intro hstep hpf)
      generalize B.P2 (n - 1 - k) = y at *
      have hq := bit_val v y hv31
      rw [hq] at HPUT
      have HPUT2 := Lib.hid HPUT
      have yz : ((y : Int) == 0) = false := by rw [beq_eq_false_iff_ne]; omega
      have HPW2 := Lib.hid HPW
      obtain ⟨c0, c1, f0, f1, cz⟩ := hc
      have HD := Lib.hid hd
      have HBEL := Lib.hid hbel
      clear hs' hf' hsnd hstep hpf HPW hq hd hbel HPUT hbl
      go_wp2_with fail
      go_region_with (first | (go_at_call 82; ((with_reducible refine (HPW2.out _).mono ?_); rintro e w' ⟨rfl, rfl⟩)) | (go_at_call 87; ((with_reducible refine (HPUT2.out _).mono ?_); rintro e w2 ⟨rfl, hb2⟩; have HB2 := Lib.hid hb2; obtain ⟨q0, q1, r0, r1, qz⟩ := Box.keep (Box.drewN ⟨c0, c1, f0, f1, cz⟩ 1) hb2; clear hb2)))
      all_goals
        go_wp2
        go_roundw
        case rel =>
          exact ⟨k + 1, _, _, by omega, by go_num, congrArg bs HST.out.1, HST.out.2, (Box.set0 ⟨q0, q1, r0, r1, qz⟩ _).set1 _, ((HD.out.drew.keep HB2.out).far (by simp) _).far (by simp) _, bq_set (bq_set (bq_trans (bq_drew HBEL.out) HB2.out) _ (by simp) _) _ (by simp) _⟩
        case measure => simp [intOf]; omega
    · obtain rfl : k = n := by omega
      have HS' : Hid (s' = bs (B.putL s.data.toList 0 v k)) := Lib.hid (by rw [hs', Nat.sub_self, B.P2_zero, Nat.div_one])
      have HF' : Hid (f' = B.putF s.size 0 k) := Lib.hid (by rw [hf', bytes_length])
      obtain ⟨c0, c1, f0, f1, cz⟩ := hc
      obtain ⟨d0, d1, g0, g1, hz⟩ := hd
      have HBEL := Lib.hid hbel
      clear hs' hf' hbel
      go_wp2
      exact refputplain_post ((Box.set0 ⟨d0, d1, g0, g1, hz⟩ _).set1 _) rfl rfl rfl ⟨by rw [rpR, HNF.out, HS'.out, HF'.out]; rfl, bq_set (bq_set HBEL.out _ (by simp) _) _ (by simp) _⟩
set_option maxHeartbeats 2000000 in
theorem refputplain_empty (s : ByteArray) (f : Int) (v n : Nat) (w : World) (hs : s.size ≤ 1000000) (hn : n ≤ 31) (hv : v < B.P2 n) (hf : 0 ≤ f) (hf7 : f ≤ 7) (hz : s.size = 0) (hnf : nf s f = 0) :
    Calls Try.prog 70 #[.agg #[.string s, .int .i64 f], .int .i64 v, .int .i64 n] w fun e w' => e = .returned (rpR s f v n) ∧ Below w.heap.size w w' := by
  have HP := Lib.hid (fun w => power_any n w (by omega))
  have HV := Lib.hid hv
  have hv31 : v < 2147483648 := Nat.lt_of_lt_of_le hv (B.P2_le (b := 31) hn)
  obtain ⟨C, D, H⟩ := box2_now w (.string s) (.int .i64 f) (.string ⟨#[]⟩) (.int .i64 0) 97 97
  have fb1 : decide (f < 0) = false := by simp; omega
  have fb2 : decide (7 < f) = false := by simp; omega
  have fb3 : ((s.size : Int) == 0) = true := by rw [beq_iff_eq]; omega
  have HZ := Lib.hid hz
  clear hz
  have HNF := Lib.hid hnf
  have p1 : decide ((n : Int) < 0) = false := by simp
  have p2 : decide (31 < (n : Int)) = false := by simp; omega
  have p3 : decide ((v : Int) < 0) = false := by simp
  have p4 : decide (B.P2 n ≤ v) = false := by simp; omega
  clear hnf
  go_enter Try.func70, Try.ntmps70
  go_upto_region 3 with (go_at_call 82; refine (HP.out _).mono ?_; rintro e w' ⟨rfl, rfl⟩)
  generalize (w.alloc (.cells #[.string s, .int .i64 f] 97)).alloc (.cells #[.string ⟨#[]⟩, .int .i64 0] 97) = w1 at C D H ⊢
  have C1 := Lib.hid (Box.set1 (Box.drewN C 1) (.int .i64 0))
  obtain ⟨c0, c1, f0, f1, cz⟩ := C
  have HD := Lib.hid D
  have H1 := Lib.hid H
  clear D H
  go_quiet ((fail))
  go_upto_region 5 with (fail)
  have C2 := Lib.hid (Box.set1 (Box.drewN ⟨c0, c1, f0, f1, cz⟩ nq) (.int .i64 0))
  have D2 := Lib.hid (Box.far (HD.out.drewN nq) (a := ⟨w.heap.size, 1, none⟩) (by simp) (.int .i64 0))
  have H2 := Lib.hid (bq_set (bq_drewN H1.out nq) ⟨w.heap.size, 1, none⟩ (by simp) (.int .i64 0))
  clear C1 c0 c1 f0 f1 cz HD H1
  generalize (w1.drewN nq).setCell ⟨w.heap.size, 1, none⟩ (.int .i64 0) = W at C2 D2 H2 ⊢
  have hloop : 0 ≤ 8 * s.data.toList.length := Nat.zero_le _
  have HF := Lib.hid hloop
  clear hloop
  go_wp2_with fail
  go_loopw [8] (fun i wr => RpRel w s.data.toList 0 v n i wr) (fun i _ => (intOf i + 1).toNat)
  case atStart => exact ⟨0, s, 0, by omega, by simp, by rw [Nat.sub_zero, Nat.div_eq_of_lt HV.out, B.putL_nil _ _ (show B.Snd s.data.toList 0 from ⟨by omega, by omega, by rw [B.P2_zero, Nat.mod_one]⟩), bs_of], by rw [B.putF_nil _ _ (show B.Snd s.data.toList 0 from ⟨by omega, by omega, by rw [B.P2_zero, Nat.mod_one]⟩).1 HF.out], C2.out, D2.out, H2.out⟩
  case round =>
    obtain ⟨k, s', f', hk, rfl, hs', hf', hc, hd, hbel⟩ := hrel
    have hsz : s'.size ≤ 1099511627776 := by rw [hs', bs_size, B.putL_len]; unfold B.putN; rw [bytes_length]; omega
    by_cases hlt : k < n
    · have hsnd : B.Snd s'.data.toList f' := by rw [hs', hf', bs_data]; exact bit_snd _ _ _ _ _ (by omega) HV.out HF.out
      have hstep := bit_step s.data.toList 0 v n k hlt HV.out HF.out
      rw [← bs_data (B.putL s.data.toList 0 (v / B.P2 (n - k)) k), ← hs', ← hf'] at hstep
      have hpf : B.putF s'.size f' 1 = B.putF s.data.toList.length 0 (k + 1) := by
        rw [hs', bs_size, B.putL_len, hf', B.putF_comp _ _ _ _ HF.out]
      have HPW := fun w => power_any (n - 1 - k) w (by omega)
      rw [show ((n - 1 - k : Nat) : Int) = (n : Int) - 1 - (k : Int) by omega] at HPW
      have hpos := B.P2_pos (n - 1 - k)
      have hpb : B.P2 (n - 1 - k) ≤ 2147483648 := B.P2_le (b := 31) (by omega)
      have hbl : v / B.P2 (n - 1 - k) % 2 < 2 := Nat.mod_lt _ (by omega)
      have HPUT := fun w => refput_any s' f' (v / B.P2 (n - 1 - k) % 2) w hsz hbl hsnd
      have HST := Lib.hid (And.intro hstep hpf)
      generalize B.P2 (n - 1 - k) = y at *
      have hq := bit_val v y hv31
      rw [hq] at HPUT
      have HPUT2 := Lib.hid HPUT
      have yz : ((y : Int) == 0) = false := by rw [beq_eq_false_iff_ne]; omega
      have HPW2 := Lib.hid HPW
      obtain ⟨c0, c1, f0, f1, cz⟩ := hc
      have HD := Lib.hid hd
      have HBEL := Lib.hid hbel
      clear hs' hf' hsnd hstep hpf HPW hq hd hbel HPUT hbl
      go_wp2_with fail
      go_region_with (first | (go_at_call 82; ((with_reducible refine (HPW2.out _).mono ?_); rintro e w' ⟨rfl, rfl⟩)) | (go_at_call 87; ((with_reducible refine (HPUT2.out _).mono ?_); rintro e w2 ⟨rfl, hb2⟩; have HB2 := Lib.hid hb2; obtain ⟨q0, q1, r0, r1, qz⟩ := Box.keep (Box.drewN ⟨c0, c1, f0, f1, cz⟩ 1) hb2; clear hb2)))
      all_goals
        go_wp2
        go_roundw
        case rel =>
          exact ⟨k + 1, _, _, by omega, by go_num, congrArg bs HST.out.1, HST.out.2, (Box.set0 ⟨q0, q1, r0, r1, qz⟩ _).set1 _, ((HD.out.drew.keep HB2.out).far (by simp) _).far (by simp) _, bq_set (bq_set (bq_trans (bq_drew HBEL.out) HB2.out) _ (by simp) _) _ (by simp) _⟩
        case measure => simp [intOf]; omega
    · obtain rfl : k = n := by omega
      have HS' : Hid (s' = bs (B.putL s.data.toList 0 v k)) := Lib.hid (by rw [hs', Nat.sub_self, B.P2_zero, Nat.div_one])
      have HF' : Hid (f' = B.putF s.size 0 k) := Lib.hid (by rw [hf', bytes_length])
      obtain ⟨c0, c1, f0, f1, cz⟩ := hc
      obtain ⟨d0, d1, g0, g1, hz⟩ := hd
      have HBEL := Lib.hid hbel
      clear hs' hf' hbel
      go_wp2
      exact refputplain_post ((Box.set0 ⟨d0, d1, g0, g1, hz⟩ _).set1 _) rfl rfl rfl ⟨by rw [rpR, HNF.out, HS'.out, HF'.out]; rfl, bq_set (bq_set HBEL.out _ (by simp) _) _ (by simp) _⟩
set_option maxHeartbeats 2000000 in
theorem refputplain_loose (s : ByteArray) (f : Nat) (v n : Nat) (w : World) (hs : s.size ≤ 1000000) (hn : n ≤ 31) (hv : v < B.P2 n) (m : Nat) (hf7 : f ≤ 7) (hm : m < s.size) (hm2 : s.size ≤ m + 1) (hl : ¬ s[m].toNat % B.P2 f = 0) (hnf : nf s f = 0) :
    Calls Try.prog 70 #[.agg #[.string s, .int .i64 f], .int .i64 v, .int .i64 n] w fun e w' => e = .returned (rpR s f v n) ∧ Below w.heap.size w w' := by
  have HP := Lib.hid (fun w => power_any n w (by omega))
  have HV := Lib.hid hv
  have hv31 : v < 2147483648 := Nat.lt_of_lt_of_le hv (B.P2_le (b := 31) hn)
  obtain ⟨C, D, H⟩ := box2_now w (.string s) (.int .i64 f) (.string ⟨#[]⟩) (.int .i64 0) 97 97
  have fb1 : decide ((f : Int) < 0) = false := by simp
  have fb2 : decide (7 < (f : Int)) = false := by simp; omega
  have fb3 : ((s.size : Int) == 0) = false := by rw [beq_eq_false_iff_ne]; omega
  have wr1 : IntKind.i64.wrap ((s.size : Int) - 1) = (m : Int) := by rw [i64_wrap _ (by omega) (by omega)]; omega
  have b2 : (m : Int) < (s.size : Int) := by omega
  have HPF := Lib.hid (fun w => power_any f w (by omega))
  have hyp := B.P2_pos f
  have hlz : ((B.P2 f : Int) == 0) = false := by rw [beq_eq_false_iff_ne]; omega
  have hlb : ((wrap64 (s[m].toNat : Int)).tmod (B.P2 f : Int) != 0) = true := by rw [last_val]; simp; omega
  clear hl
  have HNF := Lib.hid hnf
  have p1 : decide ((n : Int) < 0) = false := by simp
  have p2 : decide (31 < (n : Int)) = false := by simp; omega
  have p3 : decide ((v : Int) < 0) = false := by simp
  have p4 : decide (B.P2 n ≤ v) = false := by simp; omega
  clear hnf
  go_enter Try.func70, Try.ntmps70
  go_upto_region 3 with (go_at_call 82; refine (HP.out _).mono ?_; rintro e w' ⟨rfl, rfl⟩)
  generalize (w.alloc (.cells #[.string s, .int .i64 f] 97)).alloc (.cells #[.string ⟨#[]⟩, .int .i64 0] 97) = w1 at C D H ⊢
  have C1 := Lib.hid (Box.set1 (Box.drewN C 1) (.int .i64 0))
  obtain ⟨c0, c1, f0, f1, cz⟩ := C
  have HD := Lib.hid D
  have H1 := Lib.hid H
  clear D H
  go_quiet ((go_at_call 82; exact quiet_same (HPF.out _)))
  go_upto_region 5 with (fail)
  have C2 := Lib.hid (Box.set1 (Box.drewN ⟨c0, c1, f0, f1, cz⟩ nq) (.int .i64 0))
  have D2 := Lib.hid (Box.far (HD.out.drewN nq) (a := ⟨w.heap.size, 1, none⟩) (by simp) (.int .i64 0))
  have H2 := Lib.hid (bq_set (bq_drewN H1.out nq) ⟨w.heap.size, 1, none⟩ (by simp) (.int .i64 0))
  clear C1 c0 c1 f0 f1 cz HD H1
  generalize (w1.drewN nq).setCell ⟨w.heap.size, 1, none⟩ (.int .i64 0) = W at C2 D2 H2 ⊢
  have hloop : 0 ≤ 8 * s.data.toList.length := Nat.zero_le _
  have HF := Lib.hid hloop
  clear hloop
  go_wp2_with fail
  go_loopw [8] (fun i wr => RpRel w s.data.toList 0 v n i wr) (fun i _ => (intOf i + 1).toNat)
  case atStart => exact ⟨0, s, 0, by omega, by simp, by rw [Nat.sub_zero, Nat.div_eq_of_lt HV.out, B.putL_nil _ _ (show B.Snd s.data.toList 0 from ⟨by omega, by omega, by rw [B.P2_zero, Nat.mod_one]⟩), bs_of], by rw [B.putF_nil _ _ (show B.Snd s.data.toList 0 from ⟨by omega, by omega, by rw [B.P2_zero, Nat.mod_one]⟩).1 HF.out], C2.out, D2.out, H2.out⟩
  case round =>
    obtain ⟨k, s', f', hk, rfl, hs', hf', hc, hd, hbel⟩ := hrel
    have hsz : s'.size ≤ 1099511627776 := by rw [hs', bs_size, B.putL_len]; unfold B.putN; rw [bytes_length]; omega
    by_cases hlt : k < n
    · have hsnd : B.Snd s'.data.toList f' := by rw [hs', hf', bs_data]; exact bit_snd _ _ _ _ _ (by omega) HV.out HF.out
      have hstep := bit_step s.data.toList 0 v n k hlt HV.out HF.out
      rw [← bs_data (B.putL s.data.toList 0 (v / B.P2 (n - k)) k), ← hs', ← hf'] at hstep
      have hpf : B.putF s'.size f' 1 = B.putF s.data.toList.length 0 (k + 1) := by
        rw [hs', bs_size, B.putL_len, hf', B.putF_comp _ _ _ _ HF.out]
      have HPW := fun w => power_any (n - 1 - k) w (by omega)
      rw [show ((n - 1 - k : Nat) : Int) = (n : Int) - 1 - (k : Int) by omega] at HPW
      have hpos := B.P2_pos (n - 1 - k)
      have hpb : B.P2 (n - 1 - k) ≤ 2147483648 := B.P2_le (b := 31) (by omega)
      have hbl : v / B.P2 (n - 1 - k) % 2 < 2 := Nat.mod_lt _ (by omega)
      have HPUT := fun w => refput_any s' f' (v / B.P2 (n - 1 - k) % 2) w hsz hbl hsnd
      have HST := Lib.hid (And.intro hstep hpf)
      generalize B.P2 (n - 1 - k) = y at *
      have hq := bit_val v y hv31
      rw [hq] at HPUT
      have HPUT2 := Lib.hid HPUT
      have yz : ((y : Int) == 0) = false := by rw [beq_eq_false_iff_ne]; omega
      have HPW2 := Lib.hid HPW
      obtain ⟨c0, c1, f0, f1, cz⟩ := hc
      have HD := Lib.hid hd
      have HBEL := Lib.hid hbel
      clear hs' hf' hsnd hstep hpf HPW hq hd hbel HPUT hbl
      go_wp2_with fail
      go_region_with (first | (go_at_call 82; ((with_reducible refine (HPW2.out _).mono ?_); rintro e w' ⟨rfl, rfl⟩)) | (go_at_call 87; ((with_reducible refine (HPUT2.out _).mono ?_); rintro e w2 ⟨rfl, hb2⟩; have HB2 := Lib.hid hb2; obtain ⟨q0, q1, r0, r1, qz⟩ := Box.keep (Box.drewN ⟨c0, c1, f0, f1, cz⟩ 1) hb2; clear hb2)))
      all_goals
        go_wp2
        go_roundw
        case rel =>
          exact ⟨k + 1, _, _, by omega, by go_num, congrArg bs HST.out.1, HST.out.2, (Box.set0 ⟨q0, q1, r0, r1, qz⟩ _).set1 _, ((HD.out.drew.keep HB2.out).far (by simp) _).far (by simp) _, bq_set (bq_set (bq_trans (bq_drew HBEL.out) HB2.out) _ (by simp) _) _ (by simp) _⟩
        case measure => simp [intOf]; omega
    · obtain rfl : k = n := by omega
      have HS' : Hid (s' = bs (B.putL s.data.toList 0 v k)) := Lib.hid (by rw [hs', Nat.sub_self, B.P2_zero, Nat.div_one])
      have HF' : Hid (f' = B.putF s.size 0 k) := Lib.hid (by rw [hf', bytes_length])
      obtain ⟨c0, c1, f0, f1, cz⟩ := hc
      obtain ⟨d0, d1, g0, g1, hz⟩ := hd
      have HBEL := Lib.hid hbel
      clear hs' hf' hbel
      go_wp2
      exact refputplain_post ((Box.set0 ⟨d0, d1, g0, g1, hz⟩ _).set1 _) rfl rfl rfl ⟨by rw [rpR, HNF.out, HS'.out, HF'.out]; rfl, bq_set (bq_set HBEL.out _ (by simp) _) _ (by simp) _⟩
set_option maxHeartbeats 2000000 in
theorem refputplain_sound (s : ByteArray) (f : Nat) (v n : Nat) (w : World) (hs : s.size ≤ 1000000) (hn : n ≤ 31) (hv : v < B.P2 n) (m : Nat) (hf7 : f ≤ 7) (hm : m < s.size) (hm2 : s.size ≤ m + 1) (hl : s[m].toNat % B.P2 f = 0) (HSN : Hid (B.Snd s.data.toList f)) (hnf : nf s f = f) :
    Calls Try.prog 70 #[.agg #[.string s, .int .i64 f], .int .i64 v, .int .i64 n] w fun e w' => e = .returned (rpR s f v n) ∧ Below w.heap.size w w' := by
  have HP := Lib.hid (fun w => power_any n w (by omega))
  have HV := Lib.hid hv
  have hv31 : v < 2147483648 := Nat.lt_of_lt_of_le hv (B.P2_le (b := 31) hn)
  obtain ⟨C, D, H⟩ := box2_now w (.string s) (.int .i64 f) (.string ⟨#[]⟩) (.int .i64 0) 97 97
  have fb1 : decide ((f : Int) < 0) = false := by simp
  have fb2 : decide (7 < (f : Int)) = false := by simp; omega
  have fb3 : ((s.size : Int) == 0) = false := by rw [beq_eq_false_iff_ne]; omega
  have wr1 : IntKind.i64.wrap ((s.size : Int) - 1) = (m : Int) := by rw [i64_wrap _ (by omega) (by omega)]; omega
  have b2 : (m : Int) < (s.size : Int) := by omega
  have HPF := Lib.hid (fun w => power_any f w (by omega))
  have hyp := B.P2_pos f
  have hlz : ((B.P2 f : Int) == 0) = false := by rw [beq_eq_false_iff_ne]; omega
  have hlb : ((wrap64 (s[m].toNat : Int)).tmod (B.P2 f : Int) != 0) = false := by rw [last_val]; simp; omega
  clear hl
  have HNF := Lib.hid hnf
  have p1 : decide ((n : Int) < 0) = false := by simp
  have p2 : decide (31 < (n : Int)) = false := by simp; omega
  have p3 : decide ((v : Int) < 0) = false := by simp
  have p4 : decide (B.P2 n ≤ v) = false := by simp; omega
  clear hnf
  go_enter Try.func70, Try.ntmps70
  go_upto_region 3 with (go_at_call 82; refine (HP.out _).mono ?_; rintro e w' ⟨rfl, rfl⟩)
  generalize (w.alloc (.cells #[.string s, .int .i64 f] 97)).alloc (.cells #[.string ⟨#[]⟩, .int .i64 0] 97) = w1 at C D H ⊢
  have C1 := Lib.hid (Box.set1 (Box.drewN C 1) (.int .i64 0))
  obtain ⟨c0, c1, f0, f1, cz⟩ := C
  have HD := Lib.hid D
  have H1 := Lib.hid H
  clear D H
  go_quiet ((go_at_call 82; exact quiet_same (HPF.out _)))
  go_upto_region 5 with (fail)
  have C2 := Lib.hid (Box.drewN ⟨c0, c1, f0, f1, cz⟩ nq)
  have D2 := Lib.hid (HD.out.drewN nq)
  have H2 := Lib.hid (bq_drewN H1.out nq)
  clear C1 c0 c1 f0 f1 cz HD H1
  generalize w1.drewN nq = W at C2 D2 H2 ⊢
  have hloop : f ≤ 8 * s.data.toList.length := HSN.out.2.1
  have HF := Lib.hid hloop
  clear hloop
  go_wp2_with fail
  go_loopw [8] (fun i wr => RpRel w s.data.toList f v n i wr) (fun i _ => (intOf i + 1).toNat)
  case atStart => exact ⟨0, s, f, by omega, by simp, by rw [Nat.sub_zero, Nat.div_eq_of_lt HV.out, B.putL_nil _ _ HSN.out, bs_of], by rw [B.putF_nil _ _ HSN.out.1 HF.out], C2.out, D2.out, H2.out⟩
  case round =>
    obtain ⟨k, s', f', hk, rfl, hs', hf', hc, hd, hbel⟩ := hrel
    have hsz : s'.size ≤ 1099511627776 := by rw [hs', bs_size, B.putL_len]; unfold B.putN; rw [bytes_length]; omega
    by_cases hlt : k < n
    · have hsnd : B.Snd s'.data.toList f' := by rw [hs', hf', bs_data]; exact bit_snd _ _ _ _ _ (by omega) HV.out HF.out
      have hstep := bit_step s.data.toList f v n k hlt HV.out HF.out
      rw [← bs_data (B.putL s.data.toList f (v / B.P2 (n - k)) k), ← hs', ← hf'] at hstep
      have hpf : B.putF s'.size f' 1 = B.putF s.data.toList.length f (k + 1) := by
        rw [hs', bs_size, B.putL_len, hf', B.putF_comp _ _ _ _ HF.out]
      have HPW := fun w => power_any (n - 1 - k) w (by omega)
      rw [show ((n - 1 - k : Nat) : Int) = (n : Int) - 1 - (k : Int) by omega] at HPW
      have hpos := B.P2_pos (n - 1 - k)
      have hpb : B.P2 (n - 1 - k) ≤ 2147483648 := B.P2_le (b := 31) (by omega)
      have hbl : v / B.P2 (n - 1 - k) % 2 < 2 := Nat.mod_lt _ (by omega)
      have HPUT := fun w => refput_any s' f' (v / B.P2 (n - 1 - k) % 2) w hsz hbl hsnd
      have HST := Lib.hid (And.intro hstep hpf)
      generalize B.P2 (n - 1 - k) = y at *
      have hq := bit_val v y hv31
      rw [hq] at HPUT
      have HPUT2 := Lib.hid HPUT
      have yz : ((y : Int) == 0) = false := by rw [beq_eq_false_iff_ne]; omega
      have HPW2 := Lib.hid HPW
      obtain ⟨c0, c1, f0, f1, cz⟩ := hc
      have HD := Lib.hid hd
      have HBEL := Lib.hid hbel
      clear hs' hf' hsnd hstep hpf HPW hq hd hbel HPUT hbl
      go_wp2_with fail
      go_region_with (first | (go_at_call 82; ((with_reducible refine (HPW2.out _).mono ?_); rintro e w' ⟨rfl, rfl⟩)) | (go_at_call 87; ((with_reducible refine (HPUT2.out _).mono ?_); rintro e w2 ⟨rfl, hb2⟩; have HB2 := Lib.hid hb2; obtain ⟨q0, q1, r0, r1, qz⟩ := Box.keep (Box.drewN ⟨c0, c1, f0, f1, cz⟩ 1) hb2; clear hb2)))
      all_goals
        go_wp2
        go_roundw
        case rel =>
          exact ⟨k + 1, _, _, by omega, by go_num, congrArg bs HST.out.1, HST.out.2, (Box.set0 ⟨q0, q1, r0, r1, qz⟩ _).set1 _, ((HD.out.drew.keep HB2.out).far (by simp) _).far (by simp) _, bq_set (bq_set (bq_trans (bq_drew HBEL.out) HB2.out) _ (by simp) _) _ (by simp) _⟩
        case measure => simp [intOf]; omega
    · obtain rfl : k = n := by omega
      have HS' : Hid (s' = bs (B.putL s.data.toList f v k)) := Lib.hid (by rw [hs', Nat.sub_self, B.P2_zero, Nat.div_one])
      have HF' : Hid (f' = B.putF s.size f k) := Lib.hid (by rw [hf', bytes_length])
      obtain ⟨c0, c1, f0, f1, cz⟩ := hc
      obtain ⟨d0, d1, g0, g1, hz⟩ := hd
      have HBEL := Lib.hid hbel
      clear hs' hf' hbel
      go_wp2
      exact refputplain_post ((Box.set0 ⟨d0, d1, g0, g1, hz⟩ _).set1 _) rfl rfl rfl ⟨by rw [rpR, HNF.out, HS'.out, HF'.out]; rfl, bq_set (bq_set HBEL.out _ (by simp) _) _ (by simp) _⟩
theorem refputplain_any (s : ByteArray) (f v n : Int) (w : World) (hs : s.size ≤ 1000000) :
    Calls Try.prog 70 #[.agg #[.string s, .int .i64 f], .int .i64 v, .int .i64 n] w fun e w' => e = .returned (if ppOk v n = true then rpR s f v.toNat n.toNat else errF) ∧ Below w.heap.size w w' := by
  by_cases h : 0 ≤ n ∧ n ≤ 31 ∧ 0 ≤ v
  · obtain ⟨N, rfl⟩ := Int.eq_ofNat_of_zero_le h.1
    obtain ⟨V, rfl⟩ := Int.eq_ofNat_of_zero_le h.2.2
    have hn : N ≤ 31 := by omega
    by_cases hv : V < B.P2 N
    · have e : ppOk V N = true := by simp [ppOk]; omega
      rw [e, if_pos rfl, Int.toNat_natCast, Int.toNat_natCast]
      by_cases h0 : f < 0
      · exact refputplain_neg s f V N w hs hn hv h0 (by unfold nf; rw [if_neg (by omega)])
      by_cases h1 : 7 < f
      · exact refputplain_big s f V N w hs hn hv h1 (by unfold nf; rw [if_neg (by omega)])
      by_cases h2 : s.size = 0
      · exact refputplain_empty s f V N w hs hn hv (by omega) (by omega) h2 (by unfold nf; rw [if_neg (by omega)])
      obtain ⟨F, rfl⟩ := Int.eq_ofNat_of_zero_le (show 0 ≤ f by omega)
      obtain ⟨m, hm⟩ : ∃ m, m + 1 = s.size := ⟨s.size - 1, by omega⟩
      have el := last_mod_bs s m (by omega) (by omega) F (by omega)
      by_cases h3 : B.bv s.data.toList % B.P2 F = 0
      · have hsn : B.Snd s.data.toList F := ⟨by omega, by rw [bytes_length]; omega, h3⟩
        exact refputplain_sound s F V N w hs hn hv m (by omega) (by omega) (by omega) (by rw [← el]; exact h3) (Lib.hid hsn) (nf_of_snd s F hsn)
      · exact refputplain_loose s F V N w hs hn hv m (by omega) (by omega) (by omega) (by rw [← el]; exact h3) (by unfold nf; rw [if_neg (by intro k; exact h3 k.2.2.2)])
    · have e : ppOk V N = false := by simp [ppOk]; omega
      rw [e]
      exact refputplain_over s f V N w hn (by omega)
  · have e : ppOk v n = false := by
      unfold ppOk
      by_cases h1 : 0 ≤ n <;> by_cases h2 : n ≤ 31 <;> by_cases h3 : 0 ≤ v <;> simp [h1, h2, h3] <;> exact absurd ⟨h1, h2, h3⟩ h
    rw [e]
    exact refputplain_bad s f v n w (by omega)
end Go.Proofs.Ythlnjipefeglpaa
