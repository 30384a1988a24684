import Derived.Test.YtoofjcpapidgdaaBic
/- Layer 2: PutLittle. -/
namespace Go.Proofs.Ytoofjcpapidgdaa
open Go.RowKit
set_option linter.unusedVariables false

theorem putlittle_post {Q : Ending → World → Prop} {a : Act} {W : World} {g : Nat} {x y v : Value} (hbox : Box W g x y) (h6 : a.tmps[6]?.getD undef = .pointer (some ⟨g, 0, none⟩)) (h7 : a.tmps[7]?.getD undef = v)
    (hd : a.defers = []) (hQ : Q (.returned (.tuple #[.agg #[x, y], v])) W) : bodyPost Try.prog Try.f23 Q Exit.ret a W :=
  bodyPost_ret (v := .tuple #[.agg #[x, y], v]) (by simp [results, Try.results23, go_sem, h6, h7, hbox.1, hbox.2.1]) hd hQ
theorem islit_yes (n : Int) (w : World) (h0 : 1 ≤ n) (h1 : n ≤ 4) : Calls Try.prog 39 #[.int .i64 n] w fun e w' => e = .returned (.bool true) ∧ w = w' :=
  (islittle_any n w).mono fun e w' ⟨he, hw⟩ => ⟨by rw [he]; simp; omega, hw⟩
theorem islit_no (n : Int) (w : World) (h : n < 1 ∨ 4 < n) : Calls Try.prog 39 #[.int .i64 n] w fun e w' => e = .returned (.bool false) ∧ w = w' :=
  (islittle_any n w).mono fun e w' ⟨he, hw⟩ => ⟨by rw [he]; simp; omega, hw⟩
def LitRel (w : World) (g : Nat) (s : ByteArray) (f : Int) (v t : Nat) (i : Value) (wr : World) : Prop :=
  ∃ k : Nat, k ≤ t ∧ i = .int .i64 k ∧ BRow wr g ((B.le t v).take k ++ List.replicate (t - k) 0) ∧ Box wr w.heap.size (.string s) (.int .i64 f) ∧ Box wr (w.heap.size + 1) (.string ⟨#[]⟩) (.int .i64 0) ∧ Below w.heap.size w wr
theorem le_full (t v : Nat) : (B.le t v).take t ++ List.replicate (t - t) (0 : UInt8) = B.le t v := by
  rw [Nat.sub_self, List.replicate_zero, List.append_nil, List.take_of_length_le (by rw [B.le_len]; omega)]
theorem le_step (g t V k : Nat) (w : World) (hk : k < t) (h : BRow w g ((B.le t V).take k ++ List.replicate (t - k) 0)) :
    BRow (w.setCell ⟨g, k, none⟩ (.int .u8 ((V : Int) / 2 ^ (8 * k) % 256))) g ((B.le t V).take (k + 1) ++ List.replicate (t - (k + 1)) 0) := by
  have hl := B.le_len t V
  have hk' : k < (B.le t V).length := by omega
  rw [← list_step (B.le t V) t k hl hk hk']
  have e : (V : Int) / 2 ^ (8 * k) % 256 = ((B.le t V)[k].toNat : Int) := by rw [B.le_get t V k hk hk', div_pow]; omega
  rw [e]
  exact h.set (by simp [hl]; omega) _
def ltR (s : ByteArray) (v n : Nat) : Value := .tuple #[.agg #[.string (s ++ bs (B.le n v)), .int .i64 0], .int .i64 0]
def ltOk (v n : Int) : Bool := decide (1 ≤ n) && decide (n ≤ 4) && decide (0 ≤ v) && decide (v.toNat < B.P2 (8 * n.toNat))
theorem putlittle_bad (s : ByteArray) (f v n : Int) (w : World) (h : n < 1 ∨ 4 < n ∨ v < 0) :
    Calls Try.prog 23 #[.agg #[.string s, .int .i64 f], .int .i64 v, .int .i64 n] w fun e w' => e = .returned errW ∧ Below w.heap.size w w' := by
  have HH := Lib.hid (box2_now w (.string s) (.int .i64 f) (.string ⟨#[]⟩) (.int .i64 0) 40 40).2.2
  by_cases hn : n < 1 ∨ 4 < n
  · have HN := Lib.hid hn
    clear hn h
    go_enter Try.func23, Try.ntmps23
    go_wp2_with fail
    refine (islit_no n _ HN.out).mono ?_
    rintro e w1 ⟨rfl, rfl⟩
    go_wp2_with fail
    exact bodyPost_ret (v := errW) (by simp [results, Try.results23, go_sem, errW]) rfl ⟨rfl, HH.out⟩
  · have hv : v < 0 := by omega
    have n0 : 1 ≤ n := by omega
    have n1 : n ≤ 4 := by omega
    clear hn h
    go_enter Try.func23, Try.ntmps23
    go_wp2_with fail
    refine (islit_yes n _ n0 n1).mono ?_
    rintro e w1 ⟨rfl, rfl⟩
    go_wp2_with fail
    exact bodyPost_ret (v := errW) (by simp [results, Try.results23, go_sem, errW]) rfl ⟨rfl, HH.out⟩
set_option maxHeartbeats 1000000 in
theorem putlittle_nat (s : ByteArray) (f : Int) (v n : Nat) (w : World) (hs : s.size ≤ 1099511627776) (n0 : 1 ≤ n) (hn : n ≤ 4) :
    Calls Try.prog 23 #[.agg #[.string s, .int .i64 f], .int .i64 v, .int .i64 n] w fun e w' => e = .returned (if v < B.P2 (8 * n) then ltR s v n else errW) ∧ Below w.heap.size w w' := by
  have hpb : B.P2 (8 * n) ≤ 4294967296 := B.P2_le (b := 32) (by omega)
  have e2 : wrap64 (2 ^ (8 * n)) = (B.P2 (8 * n) : Int) := by rw [P2_cast]; exact i64_id _ (by omega) (by omega)
  by_cases hv : v < B.P2 (8 * n)
  · rw [if_pos hv]
    have hb : decide (wrap64 (2 ^ (8 * n)) ≤ (v : Int)) = false := by rw [e2]; simp; omega
    have hv2 : v < 4294967296 := by omega
    clear e2 hpb
    have HV := Lib.hid hv
    clear hv
    obtain ⟨C, D, H⟩ := box2_now w (.string s) (.int .i64 f) (.string ⟨#[]⟩) (.int .i64 0) 40 40
    go_enter Try.func23, Try.ntmps23
    go_wp2_with fail
    refine (islit_yes n _ (by omega) (by omega)).mono ?_
    rintro e w1 ⟨rfl, rfl⟩
    go_upto_region 3 with (fail)
    generalize (w.alloc (.cells #[.string s, .int .i64 f] 40)).alloc (.cells #[.string ⟨#[]⟩, .int .i64 0] 40) = w1 at C D H ⊢
    have hz : w.heap.size + 1 < w1.heap.size := D.2.2.2.2
    have hmk := made_bytes (n : Int) n rfl (by omega) w1
    have BM := Lib.hid (brow_made w1 n)
    have HMB := Lib.hid (bq_alloc (bq_refl w1) (.cells (madeCells #[.int .u8 0] n) 5))
    generalize w1.alloc (.cells (madeCells #[.int .u8 0] n) 5) = W at hmk BM HMB
    have CC := Lib.hid (C.keep HMB.out)
    have DD := Lib.hid (D.keep HMB.out)
    have H2 := Lib.hid (bq_trans H HMB.out)
    clear C D H
    go_wp2_with fail
    clear hmk
    go_loopw [29] (fun i wr => LitRel w w1.heap.size s f v n i wr) (fun i _ => n - (intOf i).toNat)
    case atStart => exact ⟨0, by omega, rfl, by simpa using BM.out, CC.out, DD.out, H2.out⟩
    case round =>
      obtain ⟨k, hk, rfl, hrow, hc0, hd0, hbel⟩ := hrel
      by_cases hlt : k < n
      · have hkl : k < ((B.le n v).take k ++ List.replicate (n - k) (0 : UInt8)).length := by simp [B.le_len]; omega
        have hc := (hrow.2 k hkl).1
        have hf := (hrow.2 k hkl).2
        have HR := Lib.hid (le_step w1.heap.size n v k wr hlt hrow)
        have HC := Lib.hid hc0
        have HD := Lib.hid hd0
        have HBEL := Lib.hid hbel
        clear hrow hc0 hd0 hbel
        go_wp2
        go_roundw
        case rel => exact ⟨k + 1, by omega, by go_num, HR.out, HC.out.far (by simp; omega) _, HD.out.far (by simp; omega) _, bq_set HBEL.out _ (by simp; omega) _⟩
        case measure => simp [intOf]; omega
      · obtain rfl : k = n := by omega
        rw [le_full] at hrow
        have hconv := hrow.str k
        rw [B.le_len] at hconv
        have hsz : (bs (B.le k v)).size ≤ 1099511627776 := by rw [bs_size, B.le_len]; omega
        have HP := Lib.hid (fun w => putbytes_any s (bs (B.le k v)) f w hs hsz)
        generalize htl : bs (B.le k v) = tl at HP hconv hsz
        have HTL := Lib.hid htl
        clear htl
        have HD := Lib.hid hd0
        have HBEL := Lib.hid hbel
        obtain ⟨c0, c1, f0, f1, cz⟩ := hc0
        clear hrow hbel hd0
        go_wp2_with fail
        refine (HP.out _).mono ?_
        rintro e w2 ⟨rfl, hb2⟩
        obtain ⟨d0, d1, g0, g1, hz'⟩ := HD.out.keep hb2
        have H3 := Lib.hid (bq_trans HBEL.out hb2)
        clear hb2
        go_wp2_with fail
        exact putlittle_post ((Box.set0 ⟨d0, d1, g0, g1, hz'⟩ _).set1 _) rfl rfl rfl ⟨by rw [ltR, HTL.out]; rfl, bq_set (bq_set H3.out _ (by simp) _) _ (by simp) _⟩
  · rw [if_neg hv]
    have hb : decide (wrap64 (2 ^ (8 * n)) ≤ (v : Int)) = true := by rw [e2]; simp; omega
    clear e2
    go_enter Try.func23, Try.ntmps23
    go_wp2_with fail
    refine (islit_yes n _ (by omega) (by omega)).mono ?_
    rintro e w1 ⟨rfl, rfl⟩
    go_wp2_with fail
    exact bodyPost_ret (v := errW) (by simp [results, Try.results23, go_sem, errW]) rfl ⟨rfl, (box2_now w _ _ _ _ _ _).2.2⟩
theorem putlittle_any (s : ByteArray) (f v n : Int) (w : World) (hs : s.size ≤ 1099511627776) :
    Calls Try.prog 23 #[.agg #[.string s, .int .i64 f], .int .i64 v, .int .i64 n] w fun e w' => e = .returned (if ltOk v n = true then ltR s v.toNat n.toNat else errW) ∧ Below w.heap.size w w' := by
  by_cases h : 1 ≤ n ∧ n ≤ 4 ∧ 0 ≤ v
  · obtain ⟨N, rfl⟩ := Int.eq_ofNat_of_zero_le (show 0 ≤ n by omega)
    obtain ⟨V, rfl⟩ := Int.eq_ofNat_of_zero_le h.2.2
    have hp := putlittle_nat s f V N w hs (by omega) (by omega)
    have e : ltOk V N = decide (V < B.P2 (8 * N)) := by simp [ltOk]; omega
    rw [e]
    simpa using hp
  · have e : ltOk v n = false := by
      unfold ltOk
      by_cases h1 : 1 ≤ n <;> by_cases h2 : n ≤ 4 <;> by_cases h3 : 0 ≤ v <;> simp [h1, h2, h3] <;> exact absurd ⟨h1, h2, h3⟩ h
    rw [e]
    exact putlittle_bad s f v n w (by omega)
end Go.Proofs.Ytoofjcpapidgdaa
