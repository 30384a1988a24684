import Derived.Test.YtgflnkkhcapkmaaHt
/- Layer 4: the document's error of lengths. -/
namespace Go.Proofs.Ytgflnkkhcapkmaa
open Go.RowKit
set_option linter.unusedVariables false

def ErRel (zs : List Int) (s m o i : Value) : Prop :=
  ∃ k x y z : Nat, k ≤ zs.length ∧ i = .int .i64 k ∧ s = .int .i64 (x : Int) ∧ m = .int .i64 (y : Int) ∧ o = .int .i64 (z : Int) ∧
    x = Hf.sk (zs.take k) 16 ∧ y = Hf.st (zs.take k) 16 ∧ z = Hf.cn (zs.take k) 1 ∧ (∀ j (h : j < zs.length), j < k → 0 ≤ zs[j] ∧ zs[j] ≤ 15)
def HvRel (m : Nat) (p j : Value) : Prop := ∃ i y : Nat, i ≤ m ∧ j = .int .i64 i ∧ p = .int .i64 (y : Int) ∧ y = B.P2 (15 - i) ∧ y ≤ 32768
theorem hv_step (i m : Nat) (h : i < m) (hm : m ≤ 15) : B.P2 (15 - i) / 2 = B.P2 (15 - (i + 1)) := by
  rw [show 15 - i = (15 - (i + 1)) + 1 by omega, B.P2_succ]; omega
theorem err_long (n : Nat) (a : Option Addr) (c : Nat) (w : World) (h : 320 < n) (h2 : n ≤ 9223372036854775807) :
    Calls Try.prog 11 #[.slice a n c] w fun e w' => e = .returned (.int .i64 1) ∧ w = w' := by
  have p1 : decide (320 < (n : Int)) = true := by simp; omega
  go_enter Try.func11, Try.ntmps11
  go_wp2
  go_ret
  exact ⟨rfl, rfl⟩
set_option maxHeartbeats 2000000 in
theorem err_few (zs : List Int) (a : Option Addr) (b o c : Nat) (w : World) (hl : zs.length ≤ 320) (ha : Hid (Ints w zs a b o)) :
    Calls Try.prog 11 #[.slice a zs.length c] w fun e w' => e = .returned (.int .i64 (errN zs : Int)) ∧ w = w' := by
  have p1 : decide (320 < (zs.length : Int)) = false := by simp; omega
  go_enter Try.func11, Try.ntmps11
  go_wp2_with fail
  clear p1
  go_loop [3, 4, 5, 6] (fun s m o i => ErRel zs s m o i) (fun _ _ _ i => zs.length - (intOf i).toNat)
  case atStart => exact ⟨0, 0, 0, 0, by omega, rfl, rfl, rfl, rfl, by rw [List.take_zero, Hf.sk_nil], by rw [List.take_zero, Hf.st_nil], by rw [List.take_zero, Hf.cn_nil], fun j h h2 => by omega⟩
  case round =>
    obtain ⟨k, x, y, q, hk, rfl, rfl, rfl, rfl, hx, hy, hq, hr⟩ := hrel
    have HX := Lib.hid hx
    have HY := Lib.hid hy
    have HQ := Lib.hid hq
    have HR := Lib.hid hr
    have htl : (zs.take k).length ≤ 320 := by rw [List.length_take]; omega
    have bx := sk_bd (zs.take k) htl 16
    have hby := Hf.st_len (zs.take k) 16
    have bq := Hf.cn_len (zs.take k) 1
    rw [← hx] at bx
    rw [← hy] at hby
    rw [← hq] at bq
    have by2 : y ≤ 320 := by omega
    have bq2 : q ≤ 320 := by omega
    clear hx hy hq hr htl hby bq
    by_cases hlt : k < zs.length
    · obtain ⟨rfl, hz0, hz1, hcell⟩ := ha.out.at (bq_refl w) k hlt
      have hsk := Hf.sk_take zs k 16 hlt
      have hst := Hf.st_take zs k 16 hlt
      have hcn := Hf.cn_take zs k 1 hlt
      rw [← HX.out] at hsk
      rw [← HY.out] at hst
      rw [← HQ.out] at hcn
      obtain ⟨z, hz⟩ : ∃ z, z = zs[k] := ⟨_, rfl⟩
      rw [← hz] at hz0 hz1 hcell hsk hst hcn
      have HZ := Lib.hid hz
      clear hz
      have HSK := Lib.hid hsk
      have HST := Lib.hid hst
      have HCN := Lib.hid hcn
      clear hsk hst hcn
      by_cases c1 : z < 0
      · have HN := Lib.hid (errN_bad zs hl k hlt (Or.inl (HZ.out ▸ c1)))
        go_wp2
        go_ret
        exact ⟨by rw [HN.out]; rfl, rfl⟩
      · by_cases c2 : 15 < z
        · have HN := Lib.hid (errN_bad zs hl k hlt (Or.inr (HZ.out ▸ c2)))
          go_wp2
          go_ret
          exact ⟨by rw [HN.out]; rfl, rfl⟩
        · have HR2 : Hid (∀ j (h : j < zs.length), j < k + 1 → 0 ≤ zs[j] ∧ zs[j] ≤ 15) := Lib.hid (by
            intro j h hj
            by_cases e : j = k
            · subst e; rw [← HZ.out]; omega
            · exact HR.out j h (by omega))
          clear HR
          by_cases c3 : 0 < z
          · obtain ⟨m, rfl⟩ : ∃ m : Nat, z = (m : Int) := ⟨z.toNat, by omega⟩
            have hm : m ≤ 15 := by omega
            have HSK2 : Hid (Hf.sk (zs.take (k + 1)) 16 = x + B.P2 (15 - m)) := Lib.hid (by rw [HSK.out, if_pos (by omega)]; rfl)
            have HST2 : Hid (Hf.st (zs.take (k + 1)) 16 = y + 1) := Lib.hid (by rw [HST.out, if_pos (by omega)])
            clear HSK HST
            by_cases c4 : m = 1
            · have t1 : ((m : Int) == 1) = true := by rw [beq_iff_eq]; omega
              have HCN2 : Hid (Hf.cn (zs.take (k + 1)) 1 = q + 1) := Lib.hid (by rw [HCN.out, if_pos (by omega)])
              clear HCN c4
              go_wp2_with fail
              go_loop [7, 8] (fun p j => HvRel m p j) (fun _ j => m - (intOf j).toNat)
              case atStart => exact ⟨0, 32768, by omega, rfl, rfl, rfl, by omega⟩
              case round =>
                obtain ⟨i, v, hi, rfl, rfl, hv, hv2⟩ := hrel
                have HV := Lib.hid hv
                clear hv
                by_cases hil : i < m
                · go_wp2
                  go_round
                  case rel => exact ⟨i + 1, v / 2, by omega, by go_num, by go_num, by rw [HV.out]; exact hv_step i m hil hm, by omega⟩
                  case measure => simp [intOf]; omega
                · obtain rfl : i = m := by omega
                  go_wp2
                  go_round
                  case rel => exact ⟨k + 1, x + v, y + 1, q + 1, by omega, by go_num, by go_num, by go_num, by go_num, by rw [HSK2.out, HV.out], HST2.out.symm, HCN2.out.symm, HR2.out⟩
                  case measure => simp [intOf]; omega
            · have t1 : ((m : Int) == 1) = false := by rw [beq_eq_false_iff_ne]; omega
              have HCN2 : Hid (Hf.cn (zs.take (k + 1)) 1 = q) := Lib.hid (by rw [HCN.out, if_neg (by omega)]; rfl)
              clear HCN c4
              go_wp2_with fail
              go_loop [7, 8] (fun p j => HvRel m p j) (fun _ j => m - (intOf j).toNat)
              case atStart => exact ⟨0, 32768, by omega, rfl, rfl, rfl, by omega⟩
              case round =>
                obtain ⟨i, v, hi, rfl, rfl, hv, hv2⟩ := hrel
                have HV := Lib.hid hv
                clear hv
                by_cases hil : i < m
                · go_wp2
                  go_round
                  case rel => exact ⟨i + 1, v / 2, by omega, by go_num, by go_num, by rw [HV.out]; exact hv_step i m hil hm, by omega⟩
                  case measure => simp [intOf]; omega
                · obtain rfl : i = m := by omega
                  go_wp2
                  go_round
                  case rel => exact ⟨k + 1, x + v, y + 1, q, by omega, by go_num, by go_num, by go_num, by go_num, by rw [HSK2.out, HV.out], HST2.out.symm, HCN2.out.symm, HR2.out⟩
                  case measure => simp [intOf]; omega
          · obtain rfl : z = 0 := by omega
            have HSK2 : Hid (Hf.sk (zs.take (k + 1)) 16 = x) := Lib.hid (by rw [HSK.out, if_neg (by omega)]; rfl)
            have HST2 : Hid (Hf.st (zs.take (k + 1)) 16 = y) := Lib.hid (by rw [HST.out, if_neg (by omega)]; rfl)
            have HCN2 : Hid (Hf.cn (zs.take (k + 1)) 1 = q) := Lib.hid (by rw [HCN.out, if_neg (by omega)]; rfl)
            clear HSK HST HCN
            go_wp2
            go_round
            case rel => exact ⟨k + 1, x, y, q, by omega, by go_num, rfl, rfl, rfl, HSK2.out.symm, HST2.out.symm, HCN2.out.symm, HR2.out⟩
            case measure => simp [intOf]; omega
    · obtain rfl : k = zs.length := by omega
      have hin : Hf.inR zs := fun i h => HR.out i h h
      have hen := errN_tab zs hl hin
      have ht : Hf.tabB zs = (x == 32768 || y == 0 || (y == 1 && q == 1)) := by
        have h1 := HX.out
        have h2 := HY.out
        have h3 := HQ.out
        rw [List.take_length] at h1 h2 h3
        unfold Hf.tabB
        rw [← h1, ← h2, ← h3]
      rw [ht] at hen
      have HN := Lib.hid hen
      clear hen ht hin HR HX HY HQ
      by_cases e1 : x = 32768
      · have q1 : ((x : Int) == 32768) = true := by rw [beq_iff_eq]; omega
        have HM : Hid (errN zs = 0) := Lib.hid (by rw [HN.out, e1]; rfl)
        clear e1 HN
        go_wp2
        go_ret
        exact ⟨by rw [HM.out]; rfl, rfl⟩
      · have q1 : ((x : Int) == 32768) = false := by rw [beq_eq_false_iff_ne]; omega
        have q1' : (x == 32768) = false := by rw [beq_eq_false_iff_ne]; exact e1
        rw [q1'] at HN
        clear e1 q1'
        by_cases e2 : y = 0
        · subst e2
          have HM : Hid (errN zs = 0) := Lib.hid (by rw [HN.out]; rfl)
          clear HN
          go_wp2
          go_ret
          exact ⟨by rw [HM.out]; rfl, rfl⟩
        · have q2 : ((y : Int) == 0) = false := by rw [beq_eq_false_iff_ne]; omega
          have q2' : (y == 0) = false := by rw [beq_eq_false_iff_ne]; exact e2
          rw [q2'] at HN
          clear e2 q2'
          by_cases e3 : y = 1
          · subst e3
            by_cases e4 : q = 1
            · subst e4
              have HM : Hid (errN zs = 0) := Lib.hid (by rw [HN.out]; rfl)
              clear HN
              go_wp2
              go_ret
              exact ⟨by rw [HM.out]; rfl, rfl⟩
            · have q4 : ((q : Int) == 1) = false := by rw [beq_eq_false_iff_ne]; omega
              have q4' : (q == 1) = false := by rw [beq_eq_false_iff_ne]; exact e4
              rw [q4'] at HN
              have HM : Hid (errN zs = 4) := Lib.hid (by rw [HN.out]; rfl)
              clear HN e4 q4'
              go_wp2
              go_ret
              exact ⟨by rw [HM.out]; rfl, rfl⟩
          · have q3 : ((y : Int) == 1) = false := by rw [beq_eq_false_iff_ne]; omega
            have q3' : (y == 1) = false := by rw [beq_eq_false_iff_ne]; exact e3
            rw [q3'] at HN
            have HM : Hid (errN zs = 4) := Lib.hid (by rw [HN.out]; rfl)
            clear HN e3 q3'
            go_wp2
            go_ret
            exact ⟨by rw [HM.out]; rfl, rfl⟩
theorem err_any (zs : List Int) (a : Option Addr) (b o c : Nat) (w : World) (hl : zs.length ≤ 9223372036854775807) (ha : Hid (Ints w zs a b o)) :
    Calls Try.prog 11 #[.slice a zs.length c] w fun e w' => e = .returned (.int .i64 (errN zs : Int)) ∧ w = w' := by
  by_cases h : 320 < zs.length
  · rw [errN_long zs h]
    exact err_long zs.length a c w h hl
  · exact err_few zs a b o c w (by omega) ha
end Go.Proofs.Ytgflnkkhcapkmaa
