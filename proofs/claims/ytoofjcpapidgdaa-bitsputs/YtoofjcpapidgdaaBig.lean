import Derived.Test.YtoofjcpapidgdaaBif
/- Layer 2: the document's PutSigned, PutLittle. -/
namespace Go.Proofs.Ytoofjcpapidgdaa
open Go.RowKit
set_option linter.unusedVariables false

theorem refputsigned_post {Q : Ending → World → Prop} {a : Act} {W : World} {g : Nat} {x y v : Value} (hbox : Box W g x y) (h6 : a.tmps[6]?.getD undef = .pointer (some ⟨g, 0, none⟩)) (h7 : a.tmps[7]?.getD undef = v)
    (hd : a.defers = []) (hQ : Q (.returned (.tuple #[.agg #[x, y], v])) W) : bodyPost Try.prog Try.f26 Q Exit.ret a W :=
  bodyPost_ret (v := .tuple #[.agg #[x, y], v]) (by simp [results, Try.results26, go_sem, h6, h7, hbox.1, hbox.2.1]) hd hQ
theorem refputlittle_post {Q : Ending → World → Prop} {a : Act} {W : World} {g : Nat} {x y v : Value} (hbox : Box W g x y) (h6 : a.tmps[6]?.getD undef = .pointer (some ⟨g, 0, none⟩)) (h7 : a.tmps[7]?.getD undef = v)
    (hd : a.defers = []) (hQ : Q (.returned (.tuple #[.agg #[x, y], v])) W) : bodyPost Try.prog Try.f27 Q Exit.ret a W :=
  bodyPost_ret (v := .tuple #[.agg #[x, y], v]) (by simp [results, Try.results27, go_sem, h6, h7, hbox.1, hbox.2.1]) hd hQ
theorem refputsigned_bad (s : ByteArray) (f v n : Int) (w : World) (v0 : -9223372036854775808 ≤ v) (v1 : v ≤ 9223372036854775807) (h : n < 0 ∨ 31 < n ∨ n < wd v) :
    Calls Try.prog 26 #[.agg #[.string s, .int .i64 f], .int .i64 v, .int .i64 n] w fun e w' => e = .returned errF ∧ Below w.heap.size w w' := by
  have HH := Lib.hid (box2_now w (.string s) (.int .i64 f) (.string ⟨#[]⟩) (.int .i64 0) 43 43).2.2
  by_cases h0 : n < 0
  · clear h
    go_enter Try.func26, Try.ntmps26
    go_wp2_with fail
    exact bodyPost_ret (v := errF) (by simp [results, Try.results26, go_sem, errF]) rfl ⟨rfl, HH.out⟩
  · by_cases h1 : 31 < n
    · clear h
      go_enter Try.func26, Try.ntmps26
      go_wp2_with fail
      exact bodyPost_ret (v := errF) (by simp [results, Try.results26, go_sem, errF]) rfl ⟨rfl, HH.out⟩
    · have hv : n < wd v := by omega
      have HW := Lib.hid (fun w => refwidth_any v w v0 v1)
      generalize wd v = y at *
      clear h
      go_enter Try.func26, Try.ntmps26
      go_wp2_with (go_at_call 30; refine (HW.out _).mono ?_; rintro e w' ⟨rfl, rfl⟩)
      exact bodyPost_ret (v := errF) (by simp [results, Try.results26, go_sem, errF]) rfl ⟨rfl, HH.out⟩
theorem refputsigned_ok (s : ByteArray) (f v : Int) (u n : Nat) (w : World) (hs : s.size ≤ 1000000) (v0 : -9223372036854775808 ≤ v) (v1 : v ≤ 9223372036854775807) (hn : n ≤ 31) (hw : wd v ≤ n)
    (hu : u < B.P2 n) (HU : Hid (v < 0 ∧ v + B.P2 n = u ∨ 0 ≤ v ∧ v = u)) :
    Calls Try.prog 26 #[.agg #[.string s, .int .i64 f], .int .i64 v, .int .i64 n] w fun e w' => e = .returned (rpR s f u n) ∧ Below w.heap.size w w' := by
  have HP := fun w => refputplain_any s f u n w hs
  have e : ppOk u n = true := by simp [ppOk]; omega
  rw [e, if_pos rfl, Int.toNat_natCast, Int.toNat_natCast] at HP
  have HPP := Lib.hid HP
  have HW := Lib.hid (fun w => refwidth_any v w v0 v1)
  have HPW := Lib.hid (fun w => power_any n w (by omega))
  have hpb : B.P2 n ≤ 2147483648 := B.P2_le (b := 31) hn
  generalize wd v = y at *
  generalize B.P2 n = z at *
  clear HP e
  unfold rpR at *
  rcases HU.out with ⟨hv, hw2⟩ | ⟨hv, hw2⟩
  · have HW2 := Lib.hid hw2
    clear hw2 HU
    go_enter Try.func26, Try.ntmps26
    go_wp2_with (first | (go_at_call 30; refine (HW.out _).mono ?_; rintro e w' ⟨rfl, rfl⟩) | (go_at_call 38; refine (HPW.out _).mono ?_; rintro e w' ⟨rfl, rfl⟩))
    rw [HW2.out]
    refine (HPP.out _).mono ?_
    rintro e w1 ⟨rfl, hb1⟩
    obtain ⟨⟨c0, c1, f0, f1, cz⟩, ⟨d0, d1, g0, g1, hz⟩, H⟩ := box2_kept hb1
    have H1 := Lib.hid H
    clear hb1 H
    go_wp2_with fail
    exact refputsigned_post ((Box.set0 ⟨d0, d1, g0, g1, hz⟩ _).set1 _) rfl rfl rfl ⟨rfl, bq_set (bq_set H1.out _ (by simp) _) _ (by simp) _⟩
  · subst hw2
    clear HU
    go_enter Try.func26, Try.ntmps26
    go_wp2_with (go_at_call 30; refine (HW.out _).mono ?_; rintro e w' ⟨rfl, rfl⟩)
    refine (HPP.out _).mono ?_
    rintro e w1 ⟨rfl, hb1⟩
    obtain ⟨⟨c0, c1, f0, f1, cz⟩, ⟨d0, d1, g0, g1, hz⟩, H⟩ := box2_kept hb1
    have H1 := Lib.hid H
    clear hb1 H
    go_wp2_with fail
    exact refputsigned_post ((Box.set0 ⟨d0, d1, g0, g1, hz⟩ _).set1 _) rfl rfl rfl ⟨rfl, bq_set (bq_set H1.out _ (by simp) _) _ (by simp) _⟩
theorem refputsigned_any (s : ByteArray) (f v n : Int) (w : World) (hs : s.size ≤ 1000000) (v0 : -9223372036854775808 ≤ v) (v1 : v ≤ 9223372036854775807) :
    Calls Try.prog 26 #[.agg #[.string s, .int .i64 f], .int .i64 v, .int .i64 n] w fun e w' => e = .returned (if psOk v n = true then rpR s f (sgU v n.toNat) n.toNat else errF) ∧ Below w.heap.size w w' := by
  by_cases h : 0 ≤ n ∧ n ≤ 31 ∧ (wd v : Int) ≤ n
  · obtain ⟨N, rfl⟩ := Int.eq_ofNat_of_zero_le h.1
    have e : psOk v N = true := by simp [psOk]; omega
    rw [e, if_pos rfl]
    have hu := (sgU_lt v N v0 v1 (by omega) (by omega))
    refine refputsigned_ok s f v (sgU v N) N w hs v0 v1 (by omega) (by omega) hu.1 (Lib.hid ?_)
    unfold sgU
    by_cases hv : v < 0
    · left
      have := hu.2.1 hv
      rw [if_pos hv]
      omega
    · right
      rw [if_neg hv]
      omega
  · have e : psOk v n = false := by
      unfold psOk
      by_cases h1 : 0 ≤ n <;> by_cases h2 : n ≤ 31 <;> by_cases h3 : (wd v : Int) ≤ n <;> simp [h1, h2, h3] <;> exact absurd ⟨h1, h2, h3⟩ h
    rw [e]
    exact refputsigned_bad s f v n w v0 v1 (by omega)

def rlR (s : ByteArray) (v n : Nat) : Value := .tuple #[.agg #[.string (s ++ bs (B.le n v)), .int .i64 0], .bool true]
theorem refputlittle_bad (s : ByteArray) (f v n : Int) (w : World) (h : n < 1 ∨ 4 < n ∨ v < 0) :
    Calls Try.prog 27 #[.agg #[.string s, .int .i64 f], .int .i64 v, .int .i64 n] w fun e w' => e = .returned errF ∧ Below w.heap.size w w' := by
  have HH := Lib.hid (box2_now w (.string s) (.int .i64 f) (.string ⟨#[]⟩) (.int .i64 0) 43 43).2.2
  by_cases h0 : n < 1
  · clear h
    go_enter Try.func27, Try.ntmps27
    go_wp2_with fail
    exact bodyPost_ret (v := errF) (by simp [results, Try.results27, go_sem, errF]) rfl ⟨rfl, HH.out⟩
  · by_cases h1 : 4 < n
    · clear h
      go_enter Try.func27, Try.ntmps27
      go_wp2_with fail
      exact bodyPost_ret (v := errF) (by simp [results, Try.results27, go_sem, errF]) rfl ⟨rfl, HH.out⟩
    · have hv : v < 0 := by omega
      clear h
      go_enter Try.func27, Try.ntmps27
      go_wp2_with fail
      exact bodyPost_ret (v := errF) (by simp [results, Try.results27, go_sem, errF]) rfl ⟨rfl, HH.out⟩
theorem refputlittle_over (s : ByteArray) (f : Int) (v n : Nat) (w : World) (n0 : 1 ≤ n) (hn : n ≤ 4) (hv : B.P2 (8 * n) ≤ v) :
    Calls Try.prog 27 #[.agg #[.string s, .int .i64 f], .int .i64 v, .int .i64 n] w fun e w' => e = .returned errF ∧ Below w.heap.size w w' := by
  have HH := Lib.hid (box2_now w (.string s) (.int .i64 f) (.string ⟨#[]⟩) (.int .i64 0) 43 43).2.2
  have HP := fun w => power_any (8 * n) w (by omega)
  rw [show ((8 * n : Nat) : Int) = 8 * (n : Int) by omega] at HP
  have HP2 := Lib.hid HP
  clear HP
  generalize B.P2 (8 * n) = y at *
  go_enter Try.func27, Try.ntmps27
  go_wp2_with (go_at_call 38; refine (HP2.out _).mono ?_; rintro e w' ⟨rfl, rfl⟩)
  exact bodyPost_ret (v := errF) (by simp [results, Try.results27, go_sem, errF]) rfl ⟨rfl, HH.out⟩
theorem app_nil (s : ByteArray) : s ++ bs [] = s := by
  rw [← bs_of s, bs_append, List.append_nil]
def RlRel (w : World) (s : ByteArray) (v n : Nat) (x i : Value) (wr : World) : Prop :=
  ∃ k : Nat, ∃ s' : ByteArray, k ≤ n ∧ i = .int .i64 (k : Int) ∧ x = .string s' ∧ s' = s ++ bs (B.le k v) ∧ Box wr (w.heap.size + 1) (.string ⟨#[]⟩) (.int .i64 0) ∧ Below w.heap.size w wr
theorem le_val (v y : Nat) (hv : v < 4294967296) : (wrap64 ((v : Int) / (y : Int))).tmod 256 = ((v / y % 256 : Nat) : Int) := by
  have hdv : v / y ≤ v := Nat.div_le_self _ _
  rw [show (v : Int) / (y : Int) = ((v / y : Nat) : Int) by push_cast; rfl]
  generalize v / y = d at *
  rw [i64_id (d : Int) (by omega) (by omega), Int.tmod_eq_emod_of_nonneg (by omega)]
  omega
set_option maxHeartbeats 1000000 in
theorem refputlittle_ok (s : ByteArray) (f : Int) (v n : Nat) (w : World) (hs : s.size ≤ 1000000) (n0 : 1 ≤ n) (hn : n ≤ 4) (hv : v < B.P2 (8 * n)) :
    Calls Try.prog 27 #[.agg #[.string s, .int .i64 f], .int .i64 v, .int .i64 n] w fun e w' => e = .returned (rlR s v n) ∧ Below w.heap.size w w' := by
  have HP := fun w => power_any (8 * n) w (by omega)
  rw [show ((8 * n : Nat) : Int) = 8 * (n : Int) by omega] at HP
  have HP2 := Lib.hid HP
  have hv32 : v < 4294967296 := Nat.lt_of_lt_of_le hv (B.P2_le (b := 32) (by omega))
  clear HP
  obtain ⟨C, D, H⟩ := box2_now w (.string s) (.int .i64 f) (.string ⟨#[]⟩) (.int .i64 0) 43 43
  have p1 : decide ((n : Int) < 1) = false := by simp; omega
  have p2 : decide (4 < (n : Int)) = false := by simp; omega
  have p3 : decide ((v : Int) < 0) = false := by simp
  have p4 : decide (B.P2 (8 * n) ≤ v) = false := by simp; omega
  go_enter Try.func27, Try.ntmps27
  go_upto_region 3 with (go_at_call 38; refine (HP2.out _).mono ?_; rintro e w' ⟨rfl, rfl⟩)
  generalize (w.alloc (.cells #[.string s, .int .i64 f] 43)).alloc (.cells #[.string ⟨#[]⟩, .int .i64 0] 43) = w1 at C D H ⊢
  obtain ⟨c0, c1, f0, f1, cz⟩ := C
  have HD := Lib.hid D
  have H1 := Lib.hid H
  clear D H
  go_wp2_with fail
  clear c0 c1 f0 f1 cz HP2
  go_loopw [8, 9] (fun x i wr => RlRel w s v n x i wr) (fun _ i _ => n - (intOf i).toNat)
  case atStart => exact ⟨0, s, by omega, rfl, rfl, by rw [B.le]; exact (app_nil s).symm, HD.out, H1.out⟩
  case round =>
    obtain ⟨k, s', hk, rfl, rfl, hs', hd, hbel⟩ := hrel
    have hsz : s'.size ≤ 1000004 := by rw [hs', ByteArray.size_append, bs_size, B.le_len]; omega
    by_cases hlt : k < n
    · have HPW := fun w => power_any (8 * k) w (by omega)
      rw [show ((8 * k : Nat) : Int) = 8 * (k : Int) by omega] at HPW
      have hsn : s' ++ bs [UInt8.ofNat (v / B.P2 (8 * k) % 256)] = s ++ bs (B.le (k + 1) v) := by
        rw [hs', ByteArray.append_assoc, bs_append, ← B.le_snoc]
      have hpos := B.P2_pos (8 * k)
      have hpb : B.P2 (8 * k) ≤ 4294967296 := B.P2_le (b := 32) (by omega)
      have HSN := Lib.hid hsn
      have HPW2 := Lib.hid HPW
      generalize B.P2 (8 * k) = y at *
      have yz : ((y : Int) == 0) = false := by rw [beq_eq_false_iff_ne]; omega
      have hc8 : (wrap64 ((v : Int) / (y : Int))).tmod 256 % 256 = ((v / y % 256 : Nat) : Int) := by rw [le_val v y hv32]; omega
      have hconv := str_one wr.heap.size (v / y % 256) (Nat.mod_lt _ (by omega)) (wr.alloc (.cells #[.int .u8 ((v / y % 256 : Nat) : Int)] 5)) (by rw [World.cell?_alloc_new]; rfl)
      rw [← hc8] at hconv
      generalize htl : bs [UInt8.ofNat (v / y % 256)] = tl at hconv HSN
      have htz : tl.size ≤ 1 := by rw [← htl, bs_size]; simp
      have HBEL := Lib.hid hbel
      have HD2 := Lib.hid hd
      clear hs' hsn HPW hbel hd hc8 htl
      go_wp2_with (go_at_call 38; refine (HPW2.out _).mono ?_; rintro e w' ⟨rfl, rfl⟩)
      go_roundw
      case rel => exact ⟨k + 1, _, by omega, by go_num, rfl, HSN.out, HD2.out.alloc _, bq_alloc HBEL.out _⟩
      case measure => simp [intOf]; omega
    · obtain rfl : k = n := by omega
      have HS' := Lib.hid hs'
      obtain ⟨d0, d1, g0, g1, hz⟩ := hd
      have HBEL := Lib.hid hbel
      clear hs' hbel
      go_wp2
      exact refputlittle_post ((Box.set0 ⟨d0, d1, g0, g1, hz⟩ _).set1 _) rfl rfl rfl ⟨by rw [rlR, HS'.out]; rfl, bq_set (bq_set HBEL.out _ (by simp) _) _ (by simp) _⟩
theorem refputlittle_any (s : ByteArray) (f v n : Int) (w : World) (hs : s.size ≤ 1000000) :
    Calls Try.prog 27 #[.agg #[.string s, .int .i64 f], .int .i64 v, .int .i64 n] w fun e w' => e = .returned (if ltOk v n = true then rlR s v.toNat n.toNat else errF) ∧ Below w.heap.size w w' := by
  by_cases h : 1 ≤ n ∧ n ≤ 4 ∧ 0 ≤ v
  · obtain ⟨N, rfl⟩ := Int.eq_ofNat_of_zero_le (show 0 ≤ n by omega)
    obtain ⟨V, rfl⟩ := Int.eq_ofNat_of_zero_le h.2.2
    by_cases hv : V < B.P2 (8 * N)
    · have e : ltOk V N = true := by simp [ltOk]; omega
      rw [e, if_pos rfl, Int.toNat_natCast, Int.toNat_natCast]
      exact refputlittle_ok s f V N w hs (by omega) (by omega) hv
    · have e : ltOk V N = false := by simp [ltOk]; omega
      rw [e]
      exact refputlittle_over s f V N w (by omega) (by omega) (by omega)
  · have e : ltOk v n = false := by
      unfold ltOk
      by_cases h1 : 1 ≤ n <;> by_cases h2 : n ≤ 4 <;> by_cases h3 : 0 ≤ v <;> simp [h1, h2, h3] <;> exact absurd ⟨h1, h2, h3⟩ h
    rw [e]
    exact refputlittle_bad s f v n w (by omega)
end Go.Proofs.Ytoofjcpapidgdaa
