import Derived.Test.YthlnjipefeglpaaZS1
import Derived.Deep.DeepCutAuto
import Derived.Deep.CutBlock
import Derived.Test.YthlnjipefeglpaaZS0
import Derived.Lib.BitFns
namespace Go.Proofs.Ythlnjipefeglpaa
open Go.RowKit
set_option linter.unusedVariables false
theorem put_post {Q : Ending → World → Prop} {a : Act} {W : World} {g : Nat} {x y : Value} (hbox : Box W g x y) (h : a.tmps[6]?.getD undef = .pointer (some ⟨g, 0, none⟩))
    (hd : a.defers = []) (hQ : Q (.returned (.agg #[x, y])) W) : bodyPost Try.prog Try.f100 Q Exit.ret a W :=
  bodyPost_ret (v := .agg #[x, y]) (by simp [results, Try.results100, go_sem, h, hbox.1, hbox.2.1]) hd hQ
def PutRel (w1 : World) (g b t V : Nat) (i : Value) (wr : World) : Prop :=
  ∃ k : Nat, k ≤ t ∧ i = .int .i64 k ∧ BRow wr g ((B.enc t V).take k ++ List.replicate (t - k) 0) ∧ Box wr b (.string ⟨#[]⟩) (.int .i64 0) ∧ Below w1.heap.size w1 wr
theorem list_step (T : List UInt8) (t k : Nat) (hT : T.length = t) (hk : k < t) (h' : k < T.length) : (T.take k ++ List.replicate (t - k) 0).set k T[k] = T.take (k + 1) ++ List.replicate (t - (k + 1)) 0 := by
  rw [List.set_append_right _ _ (by simp; omega), List.length_take, Nat.min_eq_left (by omega), Nat.sub_self, show t - k = (t - (k + 1)) + 1 by omega, List.replicate_succ, List.set_cons_zero, List.take_succ_eq_append_getElem h', List.append_assoc]
  rfl
theorem brow_full (t V : Nat) : (B.enc t V).take t ++ List.replicate (t - t) (0 : UInt8) = B.enc t V := by
  rw [Nat.sub_self, List.replicate_zero, List.append_nil, List.take_of_length_le (by rw [B.enc_len]; omega)]
theorem brow_step (g t V k : Nat) (w : World) (hk : k < t) (h : BRow w g ((B.enc t V).take k ++ List.replicate (t - k) 0)) :
    BRow (w.setCell ⟨g, k, none⟩ (.int .u8 ((V : Int) / 2 ^ (8 * (t - 1 - k)) % 256))) g ((B.enc t V).take (k + 1) ++ List.replicate (t - (k + 1)) 0) := by
  have hl := B.enc_len t V
  have hk' : k < (B.enc t V).length := by omega
  rw [← list_step (B.enc t V) t k hl hk hk']
  have e : (V : Int) / 2 ^ (8 * (t - 1 - k)) % 256 = ((B.enc t V)[k].toNat : Int) := by rw [B.enc_get t V k hk hk', div_pow]; omega
  rw [e]
  exact h.set (by simp [hl]; omega) _
set_option maxHeartbeats 1000000 in
theorem put_zero (s : ByteArray) (v n : Nat) (w : World) (hs : s.size ≤ 1099511627776) (hn : n ≤ 31) (hv : v < 2147483648) (HV : Hid (v < B.P2 n)) :
    Calls Try.prog 100 #[.agg #[.string s, .int .i64 0], .int .i64 v, .int .i64 n] w fun e w' => e = .returned (.agg #[.string (bs (B.putL s.data.toList 0 v n)), .int .i64 (B.putF s.size 0 n : Int)]) ∧ Below w.heap.size w w' := by
  obtain ⟨t, ht⟩ : ∃ t, t = (n + 7) / 8 := ⟨_, rfl⟩
  have ht4 : t ≤ 4 := by omega
  have h8 : n ≤ 8 * t := by omega
  have h9 : 8 * t ≤ n + 7 := by omega
  go_enter Try.func100, Try.ntmps100
  go_wp2_with fail
  refine (sound_zero s _).mono ?_
  rintro e w1 ⟨rfl, hb⟩
  obtain ⟨⟨c0, c1, f0, f1, cz⟩, ⟨d0, d1, g0, g1, hz⟩, H⟩ := box2_kept hb
  have H1 := Lib.hid H
  clear hb H
  have hmk := made_bytes (((n : Int) + 7) / 8) t (by omega) (by omega) w1
  have BM := Lib.hid (brow_made w1 t)
  have HMB := Lib.hid (bq_alloc (bq_refl w1) (.cells (madeCells #[.int .u8 0] t) 5))
  have HT := Lib.hid ht
  clear ht
  generalize w1.alloc (.cells (madeCells #[.int .u8 0] t) 5) = W at hmk BM HMB
  go_wp2_with fail
  obtain ⟨V, hV⟩ : ∃ V, V = v * B.P2 (8 * t - n) := ⟨_, rfl⟩
  have hV2 : V < B.P2 (8 * t) := by rw [hV]; exact Nat.lt_of_lt_of_le (B.shift_lt HV.out) (B.P2_le (by omega))
  have hV3 : V < 1099511627776 := Nat.lt_of_lt_of_le hV2 (B.P2_le (b := 40) (by omega))
  have hVw : wrap64 ((v : Int) * 2 ^ (8 * t - n)) = (V : Int) := by
    rw [P2_cast, show (v : Int) * (B.P2 (8 * t - n) : Int) = (V : Int) by rw [hV]; push_cast; rfl]
    exact i64_id _ (by omega) (by omega)
  rw [hVw]
  have HVD := Lib.hid hV
  have BB := Lib.hid (Box.keep ⟨d0, d1, g0, g1, hz⟩ HMB.out)
  have H2 := Lib.hid (bq_trans H1.out HMB.out)
  have ne1 : ¬ w.heap.size + 1 = w1.heap.size := by omega
  clear hV hV2 hVw hmk c0 c1 f0 f1 d0 d1 g0 g1
  go_loopw [62] (fun i wr => PutRel w w1.heap.size (w.heap.size + 1) t V i wr) (fun i _ => t - (intOf i).toNat)
  case atStart => exact ⟨0, by omega, rfl, by simpa using BM.out, BB.out, H2.out⟩
  case round =>
    obtain ⟨k, hk, rfl, hrow, hbox, hbel⟩ := hrel
    by_cases hlt : k < t
    · have hkl : k < ((B.enc t V).take k ++ List.replicate (t - k) (0 : UInt8)).length := by simp [B.enc_len]; omega
      have hc := (hrow.2 k hkl).1
      have hf := (hrow.2 k hkl).2
      have HR := Lib.hid (brow_step w1.heap.size t V k wr hlt hrow)
      have HBOX := Lib.hid hbox
      have HBEL := Lib.hid hbel
      clear hrow hbox hbel
      go_wp2
      go_roundw
      case rel => exact ⟨k + 1, by omega, by go_num, HR.out, HBOX.out.far (by simp; omega) _, bq_set HBEL.out _ (by simp; omega) _⟩
      case measure => simp [intOf]; omega
    · obtain rfl : k = t := by omega
      rw [brow_full] at hrow
      have hconv := hrow.str k
      rw [B.enc_len] at hconv
      have hsz : (bs (B.enc k V)).size ≤ 5 := by rw [bs_size, B.enc_len]; omega
      have HFIN : Hid (s ++ bs (B.enc k V) = bs (B.putL s.data.toList 0 v n)) := Lib.hid (by rw [← bs_of s, bs_append, bs_data, B.putL_whole _ _ _ HV.out, HVD.out, HT.out, B.putF_zero])
      have HFR : Hid ((8 * (k : Int) - (n : Int)) = (B.putF s.size 0 n : Int)) := Lib.hid (by rw [HT.out, B.putF_zero]; omega)
      generalize bs (B.enc k V) = tl at *
      obtain ⟨d0, d1, g0, g1, hz⟩ := hbox
      have HBEL := Lib.hid hbel
      clear hrow hbel
      go_wp2
      exact put_post ((Box.set0 ⟨d0, d1, g0, g1, hz⟩ _).set1 _) rfl rfl ⟨by rw [HFIN.out, HFR.out], bq_set (bq_set HBEL.out _ (by simp) _) _ (by simp) _⟩
set_option maxHeartbeats 1000000 in
theorem put_unsound (s : ByteArray) (f : Int) (v n : Nat) (w : World) (hs : s.size ≤ 1099511627776) (hn : n ≤ 31) (hv : v < 2147483648) (HV : Hid (v < B.P2 n))
    (HS : Hid (∀ w, Calls Try.prog 107 #[.agg #[.string s, .int .i64 f]] w fun e w' => e = .returned (.bool false) ∧ Below w.heap.size w w')) :
    Calls Try.prog 100 #[.agg #[.string s, .int .i64 f], .int .i64 v, .int .i64 n] w fun e w' => e = .returned (.agg #[.string (bs (B.putL s.data.toList 0 v n)), .int .i64 (B.putF s.size 0 n : Int)]) ∧ Below w.heap.size w w' := by
  obtain ⟨t, ht⟩ : ∃ t, t = (n + 7) / 8 := ⟨_, rfl⟩
  have ht4 : t ≤ 4 := by omega
  have h8 : n ≤ 8 * t := by omega
  have h9 : 8 * t ≤ n + 7 := by omega
  go_enter Try.func100, Try.ntmps100
  go_wp2_with fail
  refine (HS.out _).mono ?_
  rintro e w0 ⟨rfl, hb⟩
  obtain ⟨⟨c0', c1', f0', f1', cz'⟩, ⟨d0', d1', g0', g1', hz'⟩, H⟩ := box2_kept hb
  have C1 : Box (w0.setCell ⟨w.heap.size, 1, none⟩ (.int .i64 0)) w.heap.size (.string s) (.int .i64 0) := Box.set1 ⟨c0', c1', f0', f1', cz'⟩ _
  have D1 : Box (w0.setCell ⟨w.heap.size, 1, none⟩ (.int .i64 0)) (w.heap.size + 1) (.string ⟨#[]⟩) (.int .i64 0) := Box.far ⟨d0', d1', g0', g1', hz'⟩ (by simp) _
  have H1 := Lib.hid (bq_set H ⟨w.heap.size, 1, none⟩ (by simp) (.int .i64 0))
  go_upto_region 3 with (fail)
  generalize w0.setCell ⟨w.heap.size, 1, none⟩ (.int .i64 0) = w1 at C1 D1 H1 ⊢
  obtain ⟨c0, c1, f0, f1, cz⟩ := C1
  obtain ⟨d0, d1, g0, g1, hz⟩ := D1
  clear c0' c1' f0' f1' cz' d0' d1' g0' g1' hz' H hb
  have hmk := made_bytes (((n : Int) + 7) / 8) t (by omega) (by omega) w1
  have BM := Lib.hid (brow_made w1 t)
  have HMB := Lib.hid (bq_alloc (bq_refl w1) (.cells (madeCells #[.int .u8 0] t) 5))
  have HT := Lib.hid ht
  clear ht
  generalize w1.alloc (.cells (madeCells #[.int .u8 0] t) 5) = W at hmk BM HMB
  go_wp2_with fail
  obtain ⟨V, hV⟩ : ∃ V, V = v * B.P2 (8 * t - n) := ⟨_, rfl⟩
  have hV2 : V < B.P2 (8 * t) := by rw [hV]; exact Nat.lt_of_lt_of_le (B.shift_lt HV.out) (B.P2_le (by omega))
  have hV3 : V < 1099511627776 := Nat.lt_of_lt_of_le hV2 (B.P2_le (b := 40) (by omega))
  have hVw : wrap64 ((v : Int) * 2 ^ (8 * t - n)) = (V : Int) := by
    rw [P2_cast, show (v : Int) * (B.P2 (8 * t - n) : Int) = (V : Int) by rw [hV]; push_cast; rfl]
    exact i64_id _ (by omega) (by omega)
  rw [hVw]
  have HVD := Lib.hid hV
  have BB := Lib.hid (Box.keep ⟨d0, d1, g0, g1, hz⟩ HMB.out)
  have H2 := Lib.hid (bq_trans H1.out HMB.out)
  have ne1 : ¬ w.heap.size + 1 = w1.heap.size := by omega
  clear hV hV2 hVw hmk c0 c1 f0 f1 d0 d1 g0 g1
  go_loopw [62] (fun i wr => PutRel w w1.heap.size (w.heap.size + 1) t V i wr) (fun i _ => t - (intOf i).toNat)
  case atStart => exact ⟨0, by omega, rfl, by simpa using BM.out, BB.out, H2.out⟩
  case round =>
    obtain ⟨k, hk, rfl, hrow, hbox, hbel⟩ := hrel
    by_cases hlt : k < t
    · have hkl : k < ((B.enc t V).take k ++ List.replicate (t - k) (0 : UInt8)).length := by simp [B.enc_len]; omega
      have hc := (hrow.2 k hkl).1
      have hf := (hrow.2 k hkl).2
      have HR := Lib.hid (brow_step w1.heap.size t V k wr hlt hrow)
      have HBOX := Lib.hid hbox
      have HBEL := Lib.hid hbel
      clear hrow hbox hbel
      go_wp2
      go_roundw
      case rel => exact ⟨k + 1, by omega, by go_num, HR.out, HBOX.out.far (by simp; omega) _, bq_set HBEL.out _ (by simp; omega) _⟩
      case measure => simp [intOf]; omega
    · obtain rfl : k = t := by omega
      rw [brow_full] at hrow
      have hconv := hrow.str k
      rw [B.enc_len] at hconv
      have hsz : (bs (B.enc k V)).size ≤ 5 := by rw [bs_size, B.enc_len]; omega
      have HFIN : Hid (s ++ bs (B.enc k V) = bs (B.putL s.data.toList 0 v n)) := Lib.hid (by rw [← bs_of s, bs_append, bs_data, B.putL_whole _ _ _ HV.out, HVD.out, HT.out, B.putF_zero])
      have HFR : Hid ((8 * (k : Int) - (n : Int)) = (B.putF s.size 0 n : Int)) := Lib.hid (by rw [HT.out, B.putF_zero]; omega)
      generalize bs (B.enc k V) = tl at *
      obtain ⟨d0, d1, g0, g1, hz⟩ := hbox
      have HBEL := Lib.hid hbel
      clear hrow hbel
      go_wp2
      exact put_post ((Box.set0 ⟨d0, d1, g0, g1, hz⟩ _).set1 _) rfl rfl ⟨by rw [HFIN.out, HFR.out], bq_set (bq_set HBEL.out _ (by simp) _) _ (by simp) _⟩
theorem bs_extract (s : ByteArray) (m : Nat) (h : m ≤ s.size) : s.extract 0 m = bs (s.data.toList.take m) := by
  apply ByteArray.ext
  rw [ByteArray.data_extract]
  apply Array.toList_inj.1
  simp [bs]
theorem split_last (s : ByteArray) (m : Nat) (hm : m < s.size) (hm2 : s.size ≤ m + 1) : s.data.toList = s.data.toList.take m ++ [s[m]] := by
  rw [bytes_getElem s m hm (by rw [bytes_length]; exact hm), ← List.take_succ_eq_append_getElem, List.take_of_length_le (by rw [bytes_length]; omega)]
theorem putL_part_bs (s : ByteArray) (m : Nat) (hm : m < s.size) (hm2 : s.size ≤ m + 1) (f v n : Nat) (hf0 : 1 ≤ f) (hf : f ≤ 7) (hv : v < B.P2 n) :
    B.putL s.data.toList f v n = s.data.toList.take m ++ B.enc ((n + (8 - f) + 7) / 8) ((s[m].toNat / B.P2 f * B.P2 n + v) * B.P2 (B.putF s.size f n)) ∧ 8 * ((n + (8 - f) + 7) / 8) - (n + (8 - f)) = B.putF s.size f n := by
  have hl : (s.data.toList.take m).length = m := by rw [List.length_take, bytes_length]; omega
  have e := B.putL_part (s.data.toList.take m) s[m] f v n hf0 hf hv
  rw [← split_last s m hm hm2, hl, show m + 1 = s.size by omega] at e
  refine ⟨e, ?_⟩
  unfold B.putF B.putN
  omega
theorem or_head (v n f : Nat) (c : UInt8) (hn : n ≤ 31) (hu : c.toNat / B.P2 f * B.P2 n + v < 9223372036854775808) (hv : v < B.P2 n) :
    bits .or .i64 (v : Int) (wrap64 (wrap64 ((c.toNat : Int) / 2 ^ f) * 2 ^ n)) = ((c.toNat / B.P2 f * B.P2 n + v : Nat) : Int) := by
  have hc := c.toNat_lt
  have hd := Nat.div_le_self c.toNat (B.P2 f)
  rw [div_pow, P2_cast]
  generalize c.toNat / B.P2 f = d at *
  rw [i64_id (d : Int) (by omega) (by omega), show (d : Int) * (B.P2 n : Int) = ((d * B.P2 n : Nat) : Int) by push_cast; rfl, i64_id _ (by omega) (by omega)]
  have hj := nat_join n (d * B.P2 n) v (Nat.mul_mod_left _ _) hv
  rw [i64_or_nat _ _ (by omega) (by omega), Nat.or_comm, hj]
set_option maxHeartbeats 2000000 in
theorem put_part (s : ByteArray) (f m : Nat) (v n : Nat) (w : World) (hs : s.size ≤ 1099511627776) (hn : n ≤ 31) (hv : v < 2147483648) (HV : Hid (v < B.P2 n)) (hf0 : 1 ≤ f) (hf : f ≤ 7) (hm : m < s.size) (hm2 : s.size ≤ m + 1)
    (HS : Hid (∀ w, Calls Try.prog 107 #[.agg #[.string s, .int .i64 f]] w fun e w' => e = .returned (.bool true) ∧ Below w.heap.size w w')) :
    Calls Try.prog 100 #[.agg #[.string s, .int .i64 f], .int .i64 v, .int .i64 n] w fun e w' => e = .returned (.agg #[.string (bs (B.putL s.data.toList f v n)), .int .i64 (B.putF s.size f n : Int)]) ∧ Below w.heap.size w w' := by
  obtain ⟨t, ht⟩ : ∃ t, t = (n + (8 - f) + 7) / 8 := ⟨_, rfl⟩
  have ht4 : t ≤ 5 := by omega
  have h8 : n + (8 - f) ≤ 8 * t := by omega
  have h9 : 8 * t ≤ n + (8 - f) + 7 := by omega
  go_enter Try.func100, Try.ntmps100
  go_wp2_with fail
  refine (HS.out _).mono ?_
  rintro e w0 ⟨rfl, hb⟩
  obtain ⟨C1, D1, H⟩ := box2_kept hb
  obtain ⟨c0, c1, f0, f1, cz⟩ := C1
  have H0 := Lib.hid H
  have HD := Lib.hid D1
  clear hb H D1
  go_upto_region 6 with (fail)
  rw [show (s.size : Int) - 1 = (m : Int) by omega]
  have b2 : (m : Int) < (s.size : Int) := by omega
  go_wp2
  go_quiet (fail)
  go_upto_region 9 with (fail)
  obtain ⟨q, hq⟩ : ∃ q, q = n + (8 - f) := ⟨_, rfl⟩
  rw [show (n : Int) + (8 - (f : Int)) = (q : Int) by omega]
  have HC := Lib.hid (putL_part_bs s m hm hm2 f v n hf0 hf HV.out)
  have hc8 := s[m].toNat_lt
  obtain ⟨u, hu⟩ : ∃ u, u = s[m].toNat / B.P2 f * B.P2 n + v := ⟨_, rfl⟩
  have hu1 : u < B.P2 q := by rw [hu, hq, Nat.add_comm n]; exact B.join_lt (B.div_lt (by rw [show f + (8 - f) = 8 by omega]; exact hc8)) HV.out
  have hu2 : u < B.P2 38 := Nat.lt_of_lt_of_le hu1 (B.P2_le (by omega))
  have hu3 : u < 274877906944 := hu2
  have hor : bits .or .i64 (v : Int) (wrap64 (wrap64 ((s[m].toNat : Int) / 2 ^ f) * 2 ^ n)) = (u : Int) := by
    rw [hu]; exact or_head v n f s[m] hn (by rw [← hu]; omega) HV.out
  rw [hor]
  have HU := Lib.hid hu
  have HU1 := Lib.hid hu1
  have HQ := Lib.hid hq
  have hq8 : q ≤ 8 * t := by omega
  have hq9 : 8 * t ≤ q + 7 := by omega
  have hxs : (s.extract 0 m).size ≤ 1099511627776 := by rw [ByteArray.size_extract]; omega
  have HH := Lib.hid (bs_extract s m (by omega))
  rw [← hq, ← HU.out] at HC
  clear hc8 hu1 hu2 hor hq hu
  generalize s.extract 0 m = h at hxs HH ⊢
  have C1 : Box (w0.drewN nq) w.heap.size (.string s) (.int .i64 f) := ⟨c0, c1, f0, f1, cz⟩
  have D1 := Box.drewN HD.out nq
  have H1 := Lib.hid (bq_drewN H0.out nq)
  clear c0 c1 f0 f1 cz HD H0 HS
  generalize w0.drewN nq = w1 at C1 D1 H1 ⊢
  obtain ⟨c0, c1, f0, f1, cz⟩ := C1
  obtain ⟨d0, d1, g0, g1, hz⟩ := D1
  have hmk := made_bytes (((q : Int) + 7) / 8) t (by omega) (by omega) w1
  have BM := Lib.hid (brow_made w1 t)
  have HMB := Lib.hid (bq_alloc (bq_refl w1) (.cells (madeCells #[.int .u8 0] t) 5))
  have HT := Lib.hid ht
  clear ht
  generalize w1.alloc (.cells (madeCells #[.int .u8 0] t) 5) = W at hmk BM HMB
  go_wp2_with fail
  obtain ⟨V, hV⟩ : ∃ V, V = u * B.P2 (8 * t - q) := ⟨_, rfl⟩
  have hV2 : V < B.P2 (8 * t) := by rw [hV]; exact Nat.lt_of_lt_of_le (B.shift_lt HU1.out) (B.P2_le (by omega))
  have hV3 : V < 1099511627776 := Nat.lt_of_lt_of_le hV2 (B.P2_le (b := 40) (by omega))
  have hVw : wrap64 ((u : Int) * 2 ^ (8 * t - q)) = (V : Int) := by
    rw [P2_cast, show (u : Int) * (B.P2 (8 * t - q) : Int) = (V : Int) by rw [hV]; push_cast; rfl]
    exact i64_id _ (by omega) (by omega)
  rw [hVw]
  have HVD := Lib.hid hV
  have BB := Lib.hid (Box.keep ⟨d0, d1, g0, g1, hz⟩ HMB.out)
  have H2 := Lib.hid (bq_trans H1.out HMB.out)
  have ne1 : ¬ w.heap.size + 1 = w1.heap.size := by omega
  clear hV hV2 hVw hmk c0 c1 f0 f1 d0 d1 g0 g1
  go_loopw [62] (fun i wr => PutRel w w1.heap.size (w.heap.size + 1) t V i wr) (fun i _ => t - (intOf i).toNat)
  case atStart => exact ⟨0, by omega, rfl, by simpa using BM.out, BB.out, H2.out⟩
  case round =>
    obtain ⟨k, hk, rfl, hrow, hbox, hbel⟩ := hrel
    by_cases hlt : k < t
    · have hkl : k < ((B.enc t V).take k ++ List.replicate (t - k) (0 : UInt8)).length := by simp [B.enc_len]; omega
      have hc := (hrow.2 k hkl).1
      have hf := (hrow.2 k hkl).2
      have HR := Lib.hid (brow_step w1.heap.size t V k wr hlt hrow)
      have HBOX := Lib.hid hbox
      have HBEL := Lib.hid hbel
      clear hrow hbox hbel
      go_wp2
      go_roundw
      case rel => exact ⟨k + 1, by omega, by go_num, HR.out, HBOX.out.far (by simp; omega) _, bq_set HBEL.out _ (by simp; omega) _⟩
      case measure => simp [intOf]; omega
    · obtain rfl : k = t := by omega
      rw [brow_full] at hrow
      have hconv := hrow.str k
      rw [B.enc_len] at hconv
      have hsz : (bs (B.enc k V)).size ≤ 5 := by rw [bs_size, B.enc_len]; omega
      have HFIN : Hid (h ++ bs (B.enc k V) = bs (B.putL s.data.toList f v n)) := Lib.hid (by rw [HH.out, bs_append, HC.out.1, HVD.out, HT.out, ← HQ.out, show 8 * ((q + 7) / 8) - q = B.putF s.size f n from HC.out.2])
      have HFR : Hid ((8 * (k : Int) - (q : Int)) = (B.putF s.size f n : Int)) := Lib.hid (by rw [← HC.out.2, HT.out, ← HQ.out]; omega)
      generalize bs (B.enc k V) = tl at *
      obtain ⟨d0, d1, g0, g1, hz⟩ := hbox
      have HBEL := Lib.hid hbel
      clear hrow hbel
      go_wp2
      exact put_post ((Box.set0 ⟨d0, d1, g0, g1, hz⟩ _).set1 _) rfl rfl ⟨by rw [HFIN.out, HFR.out], bq_set (bq_set HBEL.out _ (by simp) _) _ (by simp) _⟩
end Go.Proofs.Ythlnjipefeglpaa
namespace Go.Proofs.Ythlnjipefeglpaa
open Go.RowKit
set_option linter.unusedVariables false
theorem tab_size : Lib.len8tab.size = 256 := by decide +kernel
theorem tab_all : ∀ j : Fin 256, (Lib.len8tab[j.val]'(by rw [tab_size]; exact j.isLt)).toNat = Lib.bitLen j.val := by decide +kernel
theorem tab_at (i : Nat) (h : i < Lib.len8tab.size) : (Lib.len8tab[i]'h).toNat = Lib.bitLen i := tab_all ⟨i, by rw [tab_size] at h; exact h⟩
theorem tab_close (k : Nat) (y : Int) (X : Nat) (h : y.toNat < Lib.len8tab.size) (hk : k ≤ 56) (e : Lib.bitLen X = k + Lib.bitLen y.toNat) :
    wrap64 ((k : Int) + wrap64 ((Lib.len8tab[y.toNat]'h).toNat : Int)) = (Lib.bitLen X : Int) := by
  have h8 : Lib.bitLen y.toNat ≤ 8 := Lib.bitLen_le8 ⟨y.toNat, by rw [tab_size] at h; exact h⟩
  rw [tab_at _ h, e]
  unfold wrap64
  omega
set_option maxHeartbeats 4000000 in
set_option maxRecDepth 100000 in
theorem len64_any (x : Int) (w : World) (h0 : 0 ≤ x) (h1 : x ≤ 18446744073709551615) :
    Calls Try.prog 108 #[.int .u64 x] w fun e w' => e = .returned (.int .i64 (Lib.bitLen x.toNat)) ∧ w = w' := by
  have hsz : (Lib.len8tab.size : Int) = 256 := by rw [tab_size]; rfl
  go_enter Try.func108, Try.ntmps108
  go_wp2
  all_goals (go_ret; refine ⟨ret_int ?_, rfl⟩)
  · exact tab_close 56 _ _ _ (by omega) (by rw [show (x / 4294967296 / 65536 / 256).toNat = x.toNat / 72057594037927936 from by omega]; exact Lib.bitLen_shift56 _ (by omega) (by omega))
  · exact tab_close 48 _ _ _ (by omega) (by rw [show (x / 4294967296 / 65536).toNat = x.toNat / 281474976710656 from by omega]; exact Lib.bitLen_shift48 _ (by omega) (by omega))
  · exact tab_close 40 _ _ _ (by omega) (by rw [show (x / 4294967296 / 256).toNat = x.toNat / 1099511627776 from by omega]; exact Lib.bitLen_shift40 _ (by omega) (by omega))
  · exact tab_close 32 _ _ _ (by omega) (by rw [show (x / 4294967296).toNat = x.toNat / 4294967296 from by omega]; exact Lib.bitLen_shift32 _ (by omega) (by omega))
  · exact tab_close 24 _ _ _ (by omega) (by rw [show (x / 65536 / 256).toNat = x.toNat / 16777216 from by omega]; exact Lib.bitLen_shift24 _ (by omega) (by omega))
  · exact tab_close 16 _ _ _ (by omega) (by rw [show (x / 65536).toNat = x.toNat / 65536 from by omega]; exact Lib.bitLen_shift16 _ (by omega) (by omega))
  · exact tab_close 8 _ _ _ (by omega) (by rw [show (x / 256).toNat = x.toNat / 256 from by omega]; exact Lib.bitLen_shift8 _ (by omega) (by omega))
  · have := tab_close 0 x x.toNat (by rw [tab_size]; omega) (by omega) (by omega)
    rw [← this]
    simp
theorem bitLen_pos (x : Nat) (h : 0 < x) (hx : x < 2 ^ 64) : 1 ≤ Lib.bitLen x := by rw [Lib.bitLen_half x (by omega) hx]; omega
theorem bitLen_ge (x k : Nat) (h : B.P2 k ≤ x) (hx : x < 2 ^ 64) : k + 1 ≤ Lib.bitLen x := by
  rw [Lib.bitLen_shift k x h hx]
  have h1 : 0 < x / 2 ^ k := Nat.div_pos h (Nat.two_pow_pos k)
  have h2 : x / 2 ^ k < 2 ^ 64 := Nat.lt_of_le_of_lt (Nat.div_le_self _ _) hx
  have := bitLen_pos _ h1 h2
  omega
theorem bitLen_iff (x k : Nat) (hk : k ≤ 64) (hx : x < 2 ^ 64) : Lib.bitLen x ≤ k ↔ x < B.P2 k := by
  constructor
  · intro h
    apply Nat.lt_of_not_le
    intro h2
    have := bitLen_ge x k h2 hx
    omega
  · intro h; exact Lib.bitLen_le x k hk h
def mag (v : Int) : Nat := if v < 0 then (-v - 1).toNat else v.toNat
def wd (v : Int) : Nat := if v = 0 then 0 else Lib.bitLen (mag v) + 1
def pw (v : Int) : Nat := Lib.bitLen v.toNat
theorem mag_lt (v : Int) (h0 : -9223372036854775808 ≤ v) (h1 : v ≤ 9223372036854775807) : mag v < 9223372036854775808 := by unfold mag; split <;> omega
theorem mag_fits (v : Int) (p : Nat) : mag v < p ↔ -(p : Int) ≤ v ∧ v < p := by unfold mag; split <;> omega
theorem wd_iff (v : Int) (n : Nat) (hv : v ≠ 0) (h0 : -9223372036854775808 ≤ v) (h1 : v ≤ 9223372036854775807) (hn : n ≤ 63) : wd v ≤ n + 1 ↔ -(B.P2 n : Int) ≤ v ∧ v < B.P2 n := by
  have hm := mag_lt v h0 h1
  rw [← mag_fits, ← bitLen_iff (mag v) n (by omega) (by omega), wd, if_neg hv]
  omega
theorem wd_le (v : Int) (h0 : -9223372036854775808 ≤ v) (h1 : v ≤ 9223372036854775807) : wd v ≤ 64 := by
  unfold wd
  split
  · omega
  · have hm := mag_lt v h0 h1
    have := (bitLen_iff (mag v) 63 (by omega) (by omega)).2 hm
    omega
theorem wd_pos (v : Int) (hv : v ≠ 0) : 1 ≤ wd v := by unfold wd; rw [if_neg hv]; omega
theorem xor_neg1 (v : Int) (h0 : -9223372036854775808 ≤ v) (h1 : v ≤ 9223372036854775807) : bits .xor .i64 (-1) v = -v - 1 := by
  show IntKind.i64.wrap ((BitVec.ofInt 64 (-1) ^^^ BitVec.ofInt 64 v).toNat : Int) = _
  have e1 : BitVec.ofInt 64 (-1) = BitVec.allOnes 64 := by decide
  rw [e1, BitVec.allOnes_xor, BitVec.toNat_not, BitVec.toNat_ofInt, IntKind.wrap_i64]
  have e2 : ((2 ^ 64 : Nat) : Int) = 18446744073709551616 := rfl
  have e3 : (2 : Nat) ^ 64 = 18446744073709551616 := rfl
  rw [e2, e3]
  omega
theorem u64_wrap (x : Int) (h0 : 0 ≤ x) (h1 : x ≤ 18446744073709551615) : IntKind.u64.wrap x = x := by rw [IntKind.wrap_u64]; omega
theorem width_any (v : Int) (w : World) (h0 : -9223372036854775808 ≤ v) (h1 : v ≤ 9223372036854775807) :
    Calls Try.prog 101 #[.int .i64 v] w fun e w' => e = .returned (.int .i64 (wd v : Int)) ∧ w = w' := by
  have hw := wd_le v h0 h1
  by_cases hp : 0 < v
  · have HE : Hid (Lib.bitLen v.toNat + 1 = wd v) := Lib.hid (by unfold wd mag; rw [if_neg (by omega), if_neg (by omega)])
    have hb : Lib.bitLen v.toNat ≤ 64 := by have := HE.out; omega
    have HL := fun w => len64_any v w (by omega) (by omega)
    generalize Lib.bitLen v.toNat = y at *
    have HL2 := Lib.hid HL
    clear HL
    go_enter Try.func101, Try.ntmps101
    go_wp2_with (go_at_call 108; refine (HL2.out _).mono ?_; rintro e w' ⟨rfl, rfl⟩)
    go_ret
    exact ⟨ret_int (by have := HE.out; omega), rfl⟩
  · by_cases hn : v < 0
    · have HE : Hid (Lib.bitLen (-v - 1).toNat + 1 = wd v) := Lib.hid (by unfold wd mag; rw [if_neg (by omega), if_pos (by omega)])
      have hb : Lib.bitLen (-v - 1).toNat ≤ 64 := by have := HE.out; omega
      have HL := fun w => len64_any (-v - 1) w (by omega) (by omega)
      generalize Lib.bitLen (-v - 1).toNat = y at *
      have HL2 := Lib.hid HL
      clear HL
      go_enter Try.func101, Try.ntmps101
      go_wp2_with fail
      rw [xor_neg1 v h0 h1, u64_wrap _ (by omega) (by omega)]
      refine (HL2.out _).mono ?_
      rintro e w' ⟨rfl, rfl⟩
      go_wp2
      go_ret
      exact ⟨ret_int (by have := HE.out; omega), rfl⟩
    · obtain rfl : v = 0 := by omega
      go_enter Try.func101, Try.ntmps101
      go_wp2
      go_ret
      exact ⟨rfl, rfl⟩
def WdRel (v : Int) (n : Value) : Prop := ∃ k : Nat, k ≤ wd v ∧ n = .int .i64 k
end Go.Proofs.Ythlnjipefeglpaa
