import Derived.Test.YthlnjipefeglpaaZU1
import Derived.Deep.DeepCutAuto
import Derived.Deep.CutBlock
namespace Go.Proofs.Ythlnjipefeglpaa
open Go.RowKit
set_option linter.unusedVariables false
theorem put_post {Q : Ending → World → Prop} {a : Act} {W : World} {g : Nat} {x y : Value} (hbox : Box W g x y) (h : a.tmps[6]?.getD undef = .pointer (some ⟨g, 0, none⟩))
    (hd : a.defers = []) (hQ : Q (.returned (.agg #[x, y])) W) : bodyPost Try.prog Try.f100 Q Exit.ret a W :=
  bodyPost_ret (v := .agg #[x, y]) (by simp [results, Try.results100, go_sem, h, hbox.1, hbox.2.1]) hd hQ
def PutRel (w1 : World) (g b t V : Nat) (i : Value) (wr : World) : Prop :=
  ∃ k : Nat, k ≤ t ∧ i = .int .i64 k ∧ BRow wr g ((B.enc t V).take k ++ List.replicate (t - k) 0) ∧ Box wr b (.string ⟨#[]⟩) (.int .i64 0) ∧ Below w1.heap.size w1 wr
theorem list_step (T : List UInt8) (t k : Nat) (hT : T.length = t) (hk : k < t) (h' : k < T.length) : (T.take k ++ List.replicate (t - k) 0).set k T[k] = T.take (k + 1) ++ List.replicate (t - (k + 1)) 0 := by
  rw [List.set_append_right _ _ (by simp; omega), List.length_take, Nat.min_eq_left (by omega), Nat.sub_self, show t - k = (t - (k + 1)) + 1 by omega, List.replicate_succ, List.set_cons_zero, List.take_succ_eq_append_getElem h', List.append_assoc]
  rfl
theorem brow_full (t V : Nat) : (B.enc t V).take t ++ List.replicate (t - t) (0 : UInt8) = B.enc t V := by
  rw [Nat.sub_self, List.replicate_zero, List.append_nil, List.take_of_length_le (by rw [B.enc_len]; omega)]
theorem brow_step (g t V k : Nat) (w : World) (hk : k < t) (h : BRow w g ((B.enc t V).take k ++ List.replicate (t - k) 0)) :
    BRow (w.setCell ⟨g, k, none⟩ (.int .u8 ((V : Int) / 2 ^ (8 * (t - 1 - k)) % 256))) g ((B.enc t V).take (k + 1) ++ List.replicate (t - (k + 1)) 0) := by
  have hl := B.enc_len t V
  have hk' : k < (B.enc t V).length := by omega
  rw [← list_step (B.enc t V) t k hl hk hk']
  have e : (V : Int) / 2 ^ (8 * (t - 1 - k)) % 256 = ((B.enc t V)[k].toNat : Int) := by rw [B.enc_get t V k hk hk', div_pow]; omega
  rw [e]
  exact h.set (by simp [hl]; omega) _
set_option maxHeartbeats 1000000 in
theorem put_zero (s : ByteArray) (v n : Nat) (w : World) (hs : s.size ≤ 1099511627776) (hn : n ≤ 31) (hv : v < 2147483648) (HV : Hid (v < B.P2 n)) :
    Calls Try.prog 100 #[.agg #[.string s, .int .i64 0], .int .i64 v, .int .i64 n] w fun e w' => e = .returned (.agg #[.string (bs (B.putL s.data.toList 0 v n)), .int .i64 (B.putF s.size 0 n : Int)]) ∧ Below w.heap.size w w' := by
  obtain ⟨t, ht⟩ : ∃ t, t = (n + 7) / 8 := ⟨_, rfl⟩
  have ht4 : t ≤ 4 := by omega
  have h8 : n ≤ 8 * t := by omega
  have h9 : 8 * t ≤ n + 7 := by omega
  go_enter Try.func100, Try.ntmps100
  go_wp2_with fail
  refine (sound_zero s _).mono ?_
  rintro e w1 ⟨rfl, hb⟩
  obtain ⟨⟨c0, c1, f0, f1, cz⟩, ⟨d0, d1, g0, g1, hz⟩, H⟩ := box2_kept hb
  have H1 := Lib.hid H
  clear hb H
  have hmk := made_bytes (((n : Int) + 7) / 8) t (by omega) (by omega) w1
  have BM := Lib.hid (brow_made w1 t)
  have HMB := Lib.hid (bq_alloc (bq_refl w1) (.cells (madeCells #[.int .u8 0] t) 5))
  have HT := Lib.hid ht
  clear ht
  generalize w1.alloc (.cells (madeCells #[.int .u8 0] t) 5) = W at hmk BM HMB
  go_wp2_with fail
  obtain ⟨V, hV⟩ : ∃ V, V = v * B.P2 (8 * t - n) := ⟨_, rfl⟩
  have hV2 : V < B.P2 (8 * t) := by rw [hV]; exact Nat.lt_of_lt_of_le (B.shift_lt HV.out) (B.P2_le (by omega))
  have hV3 : V < 1099511627776 := Nat.lt_of_lt_of_le hV2 (B.P2_le (b := 40) (by omega))
  have hVw : wrap64 ((v : Int) * 2 ^ (8 * t - n)) = (V : Int) := by
    rw [P2_cast, show (v : Int) * (B.P2 (8 * t - n) : Int) = (V : Int) by rw [hV]; push_cast; rfl]
    exact i64_id _ (by omega) (by omega)
  rw [hVw]
  have HVD := Lib.hid hV
  have BB := Lib.hid (Box.keep ⟨d0, d1, g0, g1, hz⟩ HMB.out)
  have H2 := Lib.hid (bq_trans H1.out HMB.out)
  have ne1 : ¬ w.heap.size + 1 = w1.heap.size := by omega
  clear hV hV2 hVw hmk c0 c1 f0 f1 d0 d1 g0 g1
  go_loopw [62] (fun i wr => PutRel w w1.heap.size (w.heap.size + 1) t V i wr) (fun i _ => t - (intOf i).toNat)
  case atStart => exact ⟨0, by omega, rfl, by simpa using BM.out, BB.out, H2.out⟩
  case round =>
    obtain ⟨k, hk, rfl, hrow, hbox, hbel⟩ := hrel
    by_cases hlt : k < t
    · have hkl : k < ((B.enc t V).take k ++ List.replicate (t - k) (0 : UInt8)).length := by simp [B.enc_len]; omega
      have hc := (hrow.2 k hkl).1
      have hf := (hrow.2 k hkl).2
      have HR := Lib.hid (brow_step w1.heap.size t V k wr hlt hrow)
      have HBOX := Lib.hid hbox
      have HBEL := Lib.hid hbel
      clear hrow hbox hbel
      go_wp2
      go_roundw
      case rel => exact ⟨k + 1, by omega, by go_num, HR.out, HBOX.out.far (by simp; omega) _, bq_set HBEL.out _ (by simp; omega) _⟩
      case measure => simp [intOf]; omega
    · obtain rfl : k = t := by omega
      rw [brow_full] at hrow
      have hconv := hrow.str k
      rw [B.enc_len] at hconv
      have hsz : (bs (B.enc k V)).size ≤ 5 := by rw [bs_size, B.enc_len]; omega
      have HFIN : Hid (s ++ bs (B.enc k V) = bs (B.putL s.data.toList 0 v n)) := Lib.hid (by rw [← bs_of s, bs_append, bs_data, B.putL_whole _ _ _ HV.out, HVD.out, HT.out, B.putF_zero])
      have HFR : Hid ((8 * (k : Int) - (n : Int)) = (B.putF s.size 0 n : Int)) := Lib.hid (by rw [HT.out, B.putF_zero]; omega)
      generalize bs (B.enc k V) = tl at *
      obtain ⟨d0, d1, g0, g1, hz⟩ := hbox
      have HBEL := Lib.hid hbel
      clear hrow hbel
      go_wp2
      exact put_post ((Box.set0 ⟨d0, d1, g0, g1, hz⟩ _).set1 _) rfl rfl ⟨by rw [HFIN.out, HFR.out], bq_set (bq_set HBEL.out _ (by simp) _) _ (by simp) _⟩
set_option maxHeartbeats 1000000 in
theorem put_unsound (s : ByteArray) (f : Int) (v n : Nat) (w : World) (hs : s.size ≤ 1099511627776) (hn : n ≤ 31) (hv : v < 2147483648) (HV : Hid (v < B.P2 n))
    (HS : Hid (∀ w, Calls Try.prog 107 #[.agg #[.string s, .int .i64 f]] w fun e w' => e = .returned (.bool false) ∧ Below w.heap.size w w')) :
    Calls Try.prog 100 #[.agg #[.string s, .int .i64 f], .int .i64 v, .int .i64 n] w fun e w' => e = .returned (.agg #[.string (bs (B.putL s.data.toList 0 v n)), .int .i64 (B.putF s.size 0 n : Int)]) ∧ Below w.heap.size w w' := by
  obtain ⟨t, ht⟩ : ∃ t, t = (n + 7) / 8 := ⟨_, rfl⟩
  have ht4 : t ≤ 4 := by omega
  have h8 : n ≤ 8 * t := by omega
  have h9 : 8 * t ≤ n + 7 := by omega
  go_enter Try.func100, Try.ntmps100
  go_wp2_with fail
  refine (HS.out _).mono ?_
  rintro e w0 ⟨rfl, hb⟩
  obtain ⟨⟨c0', c1', f0', f1', cz'⟩, ⟨d0', d1', g0', g1', hz'⟩, H⟩ := box2_kept hb
  have C1 : Box (w0.setCell ⟨w.heap.size, 1, none⟩ (.int .i64 0)) w.heap.size (.string s) (.int .i64 0) := Box.set1 ⟨c0', c1', f0', f1', cz'⟩ _
  have D1 : Box (w0.setCell ⟨w.heap.size, 1, none⟩ (.int .i64 0)) (w.heap.size + 1) (.string ⟨#[]⟩) (.int .i64 0) := Box.far ⟨d0', d1', g0', g1', hz'⟩ (by simp) _
  have H1 := Lib.hid (bq_set H ⟨w.heap.size, 1, none⟩ (by simp) (.int .i64 0))
  go_upto_region 3 with (fail)
  generalize w0.setCell ⟨w.heap.size, 1, none⟩ (.int .i64 0) = w1 at C1 D1 H1 ⊢
  obtain ⟨c0, c1, f0, f1, cz⟩ := C1
  obtain ⟨d0, d1, g0, g1, hz⟩ := D1
  clear c0' c1' f0' f1' cz' d0' d1' g0' g1' hz' H hb
  have hmk := made_bytes (((n : Int) + 7) / 8) t (by omega) (by omega) w1
  have BM := Lib.hid (brow_made w1 t)
  have HMB := Lib.hid (bq_alloc (bq_refl w1) (.cells (madeCells #[.int .u8 0] t) 5))
  have HT := Lib.hid ht
  clear ht
  generalize w1.alloc (.cells (madeCells #[.int .u8 0] t) 5) = W at hmk BM HMB
  go_wp2_with fail
  obtain ⟨V, hV⟩ : ∃ V, V = v * B.P2 (8 * t - n) := ⟨_, rfl⟩
  have hV2 : V < B.P2 (8 * t) := by rw [hV]; exact Nat.lt_of_lt_of_le (B.shift_lt HV.out) (B.P2_le (by omega))
  have hV3 : V < 1099511627776 := Nat.lt_of_lt_of_le hV2 (B.P2_le (b := 40) (by omega))
  have hVw : wrap64 ((v : Int) * 2 ^ (8 * t - n)) = (V : Int) := by
    rw [P2_cast, show (v : Int) * (B.P2 (8 * t - n) : Int) = (V : Int) by rw [hV]; push_cast; rfl]
    exact i64_id _ (by omega) (by omega)
  rw [hVw]
  have HVD := Lib.hid hV
  have BB := Lib.hid (Box.keep ⟨d0, d1, g0, g1, hz⟩ HMB.out)
  have H2 := Lib.hid (bq_trans H1.out HMB.out)
  have ne1 : ¬ w.heap.size + 1 = w1.heap.size := by omega
  clear hV hV2 hVw hmk c0 c1 f0 f1 d0 d1 g0 g1
  go_loopw [62] (fun i wr => PutRel w w1.heap.size (w.heap.size + 1) t V i wr) (fun i _ => t - (intOf i).toNat)
  case atStart => exact ⟨0, by omega, rfl, by simpa using BM.out, BB.out, H2.out⟩
  case round =>
    obtain ⟨k, hk, rfl, hrow, hbox, hbel⟩ := hrel
    by_cases hlt : k < t
    · have hkl : k < ((B.enc t V).take k ++ List.replicate (t - k) (0 : UInt8)).length := by simp [B.enc_len]; omega
      have hc := (hrow.2 k hkl).1
      have hf := (hrow.2 k hkl).2
      have HR := Lib.hid (brow_step w1.heap.size t V k wr hlt hrow)
      have HBOX := Lib.hid hbox
      have HBEL := Lib.hid hbel
      clear hrow hbox hbel
      go_wp2
      go_roundw
      case rel => exact ⟨k + 1, by omega, by go_num, HR.out, HBOX.out.far (by simp; omega) _, bq_set HBEL.out _ (by simp; omega) _⟩
      case measure => simp [intOf]; omega
    · obtain rfl : k = t := by omega
      rw [brow_full] at hrow
      have hconv := hrow.str k
      rw [B.enc_len] at hconv
      have hsz : (bs (B.enc k V)).size ≤ 5 := by rw [bs_size, B.enc_len]; omega
      have HFIN : Hid (s ++ bs (B.enc k V) = bs (B.putL s.data.toList 0 v n)) := Lib.hid (by rw [← bs_of s, bs_append, bs_data, B.putL_whole _ _ _ HV.out, HVD.out, HT.out, B.putF_zero])
      have HFR : Hid ((8 * (k : Int) - (n : Int)) = (B.putF s.size 0 n : Int)) := Lib.hid (by rw [HT.out, B.putF_zero]; omega)
      generalize bs (B.enc k V) = tl at *
      obtain ⟨d0, d1, g0, g1, hz⟩ := hbox
      have HBEL := Lib.hid hbel
      clear hrow hbel
      go_wp2
      exact put_post ((Box.set0 ⟨d0, d1, g0, g1, hz⟩ _).set1 _) rfl rfl ⟨by rw [HFIN.out, HFR.out], bq_set (bq_set HBEL.out _ (by simp) _) _ (by simp) _⟩
theorem bs_extract (s : ByteArray) (m : Nat) (h : m ≤ s.size) : s.extract 0 m = bs (s.data.toList.take m) := by
  apply ByteArray.ext
  rw [ByteArray.data_extract]
  apply Array.toList_inj.1
  simp [bs]
theorem split_last (s : ByteArray) (m : Nat) (hm : m < s.size) (hm2 : s.size ≤ m + 1) : s.data.toList = s.data.toList.take m ++ [s[m]] := by
  rw [bytes_getElem s m hm (by rw [bytes_length]; exact hm), ← List.take_succ_eq_append_getElem, List.take_of_length_le (by rw [bytes_length]; omega)]
theorem putL_part_bs (s : ByteArray) (m : Nat) (hm : m < s.size) (hm2 : s.size ≤ m + 1) (f v n : Nat) (hf0 : 1 ≤ f) (hf : f ≤ 7) (hv : v < B.P2 n) :
    B.putL s.data.toList f v n = s.data.toList.take m ++ B.enc ((n + (8 - f) + 7) / 8) ((s[m].toNat / B.P2 f * B.P2 n + v) * B.P2 (B.putF s.size f n)) ∧ 8 * ((n + (8 - f) + 7) / 8) - (n + (8 - f)) = B.putF s.size f n := by
  have hl : (s.data.toList.take m).length = m := by rw [List.length_take, bytes_length]; omega
  have e := B.putL_part (s.data.toList.take m) s[m] f v n hf0 hf hv
  rw [← split_last s m hm hm2, hl, show m + 1 = s.size by omega] at e
  refine ⟨e, ?_⟩
  unfold B.putF B.putN
  omega
theorem or_head (v n f : Nat) (c : UInt8) (hn : n ≤ 31) (hu : c.toNat / B.P2 f * B.P2 n + v < 9223372036854775808) (hv : v < B.P2 n) :
    bits .or .i64 (v : Int) (wrap64 (wrap64 ((c.toNat : Int) / 2 ^ f) * 2 ^ n)) = ((c.toNat / B.P2 f * B.P2 n + v : Nat) : Int) := by
  have hc := c.toNat_lt
  have hd := Nat.div_le_self c.toNat (B.P2 f)
  rw [div_pow, P2_cast]
  generalize c.toNat / B.P2 f = d at *
  rw [i64_id (d : Int) (by omega) (by omega), show (d : Int) * (B.P2 n : Int) = ((d * B.P2 n : Nat) : Int) by push_cast; rfl, i64_id _ (by omega) (by omega)]
  have hj := nat_join n (d * B.P2 n) v (Nat.mul_mod_left _ _) hv
  rw [i64_or_nat _ _ (by omega) (by omega), Nat.or_comm, hj]
set_option maxHeartbeats 2000000 in
theorem put_part (s : ByteArray) (f m : Nat) (v n : Nat) (w : World) (hs : s.size ≤ 1099511627776) (hn : n ≤ 31) (hv : v < 2147483648) (HV : Hid (v < B.P2 n)) (hf0 : 1 ≤ f) (hf : f ≤ 7) (hm : m < s.size) (hm2 : s.size ≤ m + 1)
    (HS : Hid (∀ w, Calls Try.prog 107 #[.agg #[.string s, .int .i64 f]] w fun e w' => e = .returned (.bool true) ∧ Below w.heap.size w w')) :
    Calls Try.prog 100 #[.agg #[.string s, .int .i64 f], .int .i64 v, .int .i64 n] w fun e w' => e = .returned (.agg #[.string (bs (B.putL s.data.toList f v n)), .int .i64 (B.putF s.size f n : Int)]) ∧ Below w.heap.size w w' := by
  obtain ⟨t, ht⟩ : ∃ t, t = (n + (8 - f) + 7) / 8 := ⟨_, rfl⟩
  have ht4 : t ≤ 5 := by omega
  have h8 : n + (8 - f) ≤ 8 * t := by omega
  have h9 : 8 * t ≤ n + (8 - f) + 7 := by omega
  go_enter Try.func100, Try.ntmps100
  go_wp2_with fail
  refine (HS.out _).mono ?_
  rintro e w0 ⟨rfl, hb⟩
  obtain ⟨C1, D1, H⟩ := box2_kept hb
  obtain ⟨c0, c1, f0, f1, cz⟩ := C1
  have H0 := Lib.hid H
  have HD := Lib.hid D1
  clear hb H D1
  go_upto_region 6 with (fail)
  rw [show (s.size : Int) - 1 = (m : Int) by omega]
  have b2 : (m : Int) < (s.size : Int) := by omega
  go_wp2
  go_quiet (fail)
  go_upto_region 9 with (fail)
  obtain ⟨q, hq⟩ : ∃ q, q = n + (8 - f) := ⟨_, rfl⟩
  rw [show (n : Int) + (8 - (f : Int)) = (q : Int) by omega]
  have HC := Lib.hid (putL_part_bs s m hm hm2 f v n hf0 hf HV.out)
  have hc8 := s[m].toNat_lt
  obtain ⟨u, hu⟩ : ∃ u, u = s[m].toNat / B.P2 f * B.P2 n + v := ⟨_, rfl⟩
  have hu1 : u < B.P2 q := by rw [hu, hq, Nat.add_comm n]; exact B.join_lt (B.div_lt (by rw [show f + (8 - f) = 8 by omega]; exact hc8)) HV.out
  have hu2 : u < B.P2 38 := Nat.lt_of_lt_of_le hu1 (B.P2_le (by omega))
  have hu3 : u < 274877906944 := hu2
  have hor : bits .or .i64 (v : Int) (wrap64 (wrap64 ((s[m].toNat : Int) / 2 ^ f) * 2 ^ n)) = (u : Int) := by
    rw [hu]; exact or_head v n f s[m] hn (by rw [← hu]; omega) HV.out
  rw [hor]
  have HU := Lib.hid hu
  have HU1 := Lib.hid hu1
  have HQ := Lib.hid hq
  have hq8 : q ≤ 8 * t := by omega
  have hq9 : 8 * t ≤ q + 7 := by omega
  have hxs : (s.extract 0 m).size ≤ 1099511627776 := by rw [ByteArray.size_extract]; omega
  have HH := Lib.hid (bs_extract s m (by omega))
  rw [← hq, ← HU.out] at HC
  clear hc8 hu1 hu2 hor hq hu
  generalize s.extract 0 m = h at hxs HH ⊢
  have C1 : Box (w0.drewN nq) w.heap.size (.string s) (.int .i64 f) := ⟨c0, c1, f0, f1, cz⟩
  have D1 := Box.drewN HD.out nq
  have H1 := Lib.hid (bq_drewN H0.out nq)
  clear c0 c1 f0 f1 cz HD H0 HS
  generalize w0.drewN nq = w1 at C1 D1 H1 ⊢
  obtain ⟨c0, c1, f0, f1, cz⟩ := C1
  obtain ⟨d0, d1, g0, g1, hz⟩ := D1
  have hmk := made_bytes (((q : Int) + 7) / 8) t (by omega) (by omega) w1
  have BM := Lib.hid (brow_made w1 t)
  have HMB := Lib.hid (bq_alloc (bq_refl w1) (.cells (madeCells #[.int .u8 0] t) 5))
  have HT := Lib.hid ht
  clear ht
  generalize w1.alloc (.cells (madeCells #[.int .u8 0] t) 5) = W at hmk BM HMB
  go_wp2_with fail
  obtain ⟨V, hV⟩ : ∃ V, V = u * B.P2 (8 * t - q) := ⟨_, rfl⟩
  have hV2 : V < B.P2 (8 * t) := by rw [hV]; exact Nat.lt_of_lt_of_le (B.shift_lt HU1.out) (B.P2_le (by omega))
  have hV3 : V < 1099511627776 := Nat.lt_of_lt_of_le hV2 (B.P2_le (b := 40) (by omega))
  have hVw : wrap64 ((u : Int) * 2 ^ (8 * t - q)) = (V : Int) := by
    rw [P2_cast, show (u : Int) * (B.P2 (8 * t - q) : Int) = (V : Int) by rw [hV]; push_cast; rfl]
    exact i64_id _ (by omega) (by omega)
  rw [hVw]
  have HVD := Lib.hid hV
  have BB := Lib.hid (Box.keep ⟨d0, d1, g0, g1, hz⟩ HMB.out)
  have H2 := Lib.hid (bq_trans H1.out HMB.out)
  have ne1 : ¬ w.heap.size + 1 = w1.heap.size := by omega
  clear hV hV2 hVw hmk c0 c1 f0 f1 d0 d1 g0 g1
  go_loopw [62] (fun i wr => PutRel w w1.heap.size (w.heap.size + 1) t V i wr) (fun i _ => t - (intOf i).toNat)
  case atStart => exact ⟨0, by omega, rfl, by simpa using BM.out, BB.out, H2.out⟩
  case round =>
    obtain ⟨k, hk, rfl, hrow, hbox, hbel⟩ := hrel
    by_cases hlt : k < t
    · have hkl : k < ((B.enc t V).take k ++ List.replicate (t - k) (0 : UInt8)).length := by simp [B.enc_len]; omega
      have hc := (hrow.2 k hkl).1
      have hf := (hrow.2 k hkl).2
      have HR := Lib.hid (brow_step w1.heap.size t V k wr hlt hrow)
      have HBOX := Lib.hid hbox
      have HBEL := Lib.hid hbel
      clear hrow hbox hbel
      go_wp2
      go_roundw
      case rel => exact ⟨k + 1, by omega, by go_num, HR.out, HBOX.out.far (by simp; omega) _, bq_set HBEL.out _ (by simp; omega) _⟩
      case measure => simp [intOf]; omega
    · obtain rfl : k = t := by omega
      rw [brow_full] at hrow
      have hconv := hrow.str k
      rw [B.enc_len] at hconv
      have hsz : (bs (B.enc k V)).size ≤ 5 := by rw [bs_size, B.enc_len]; omega
      have HFIN : Hid (h ++ bs (B.enc k V) = bs (B.putL s.data.toList f v n)) := Lib.hid (by rw [HH.out, bs_append, HC.out.1, HVD.out, HT.out, ← HQ.out, show 8 * ((q + 7) / 8) - q = B.putF s.size f n from HC.out.2])
      have HFR : Hid ((8 * (k : Int) - (q : Int)) = (B.putF s.size f n : Int)) := Lib.hid (by rw [← HC.out.2, HT.out, ← HQ.out]; omega)
      generalize bs (B.enc k V) = tl at *
      obtain ⟨d0, d1, g0, g1, hz⟩ := hbox
      have HBEL := Lib.hid hbel
      clear hrow hbel
      go_wp2
      exact put_post ((Box.set0 ⟨d0, d1, g0, g1, hz⟩ _).set1 _) rfl rfl ⟨by rw [HFIN.out, HFR.out], bq_set (bq_set HBEL.out _ (by simp) _) _ (by simp) _⟩
end Go.Proofs.Ythlnjipefeglpaa
