import Derived.Test.YtddiccdfeckgaaaDoorZA
import Derived.Deep.QuietTactic
import Derived.BigQuiet
/- Layer 4: the document's error of lengths. -/
namespace Go.Proofs.YtddiccdfeckgaaaDoor
open Go.RowKit
set_option linter.unusedVariables false

def ErRel (zs : List Int) (s m o i : Value) : Prop :=
  ∃ k x y z : Nat, k ≤ zs.length ∧ i = .int .i64 k ∧ s = .int .i64 (x : Int) ∧ m = .int .i64 (y : Int) ∧ o = .int .i64 (z : Int) ∧
    x = Hf.sk (zs.take k) 16 ∧ y = Hf.st (zs.take k) 16 ∧ z = Hf.cn (zs.take k) 1 ∧ (∀ j (h : j < zs.length), j < k → 0 ≤ zs[j] ∧ zs[j] ≤ 15)
def HvRel (m : Nat) (p j : Value) : Prop := ∃ i y : Nat, i ≤ m ∧ j = .int .i64 i ∧ p = .int .i64 (y : Int) ∧ y = B.P2 (15 - i) ∧ y ≤ 32768
theorem hv_step (i m : Nat) (h : i < m) (hm : m ≤ 15) : B.P2 (15 - i) / 2 = B.P2 (15 - (i + 1)) := by
  rw [show 15 - i = (15 - (i + 1)) + 1 by omega, B.P2_succ]; omega
theorem err_long (n : Nat) (a : Option Addr) (c : Nat) (w : World) (h : 320 < n) (h2 : n ≤ 9223372036854775807) :
    Calls Tryd.prog 46 #[.slice a n c] w fun e w' => e = .returned (.int .i64 1) ∧ w = w' := by
  have p1 : decide (320 < (n : Int)) = true := by simp; omega
  go_enter Tryd.func46, Tryd.ntmps46
  go_wp2
  go_ret
  exact ⟨rfl, rfl⟩
set_option maxHeartbeats 2000000 in
theorem err_few (zs : List Int) (a : Option Addr) (b o c : Nat) (w : World) (hl : zs.length ≤ 320) (ha : Hid (Ints w zs a b o)) :
    Calls Tryd.prog 46 #[.slice a zs.length c] w fun e w' => e = .returned (.int .i64 (errN zs : Int)) ∧ w = w' := by
  have p1 : decide (320 < (zs.length : Int)) = false := by simp; omega
  go_enter Tryd.func46, Tryd.ntmps46
  go_wp2_with fail
  clear p1
  go_loop [3, 4, 5, 6] (fun s m o i => ErRel zs s m o i) (fun _ _ _ i => zs.length - (intOf i).toNat)
  case atStart => exact ⟨0, 0, 0, 0, by omega, rfl, rfl, rfl, rfl, by rw [List.take_zero, Hf.sk_nil], by rw [List.take_zero, Hf.st_nil], by rw [List.take_zero, Hf.cn_nil], fun j h h2 => by omega⟩
  case round =>
    obtain ⟨k, x, y, q, hk, rfl, rfl, rfl, rfl, hx, hy, hq, hr⟩ := hrel
    have HX := Lib.hid hx
    have HY := Lib.hid hy
    have HQ := Lib.hid hq
    have HR := Lib.hid hr
    have htl : (zs.take k).length ≤ 320 := by rw [List.length_take]; omega
    have bx := sk_bd (zs.take k) htl 16
    have hby := Hf.st_len (zs.take k) 16
    have bq := Hf.cn_len (zs.take k) 1
    rw [← hx] at bx
    rw [← hy] at hby
    rw [← hq] at bq
    have by2 : y ≤ 320 := by omega
    have bq2 : q ≤ 320 := by omega
    clear hx hy hq hr htl hby bq
    by_cases hlt : k < zs.length
    · obtain ⟨rfl, hz0, hz1, hcell⟩ := ha.out.at (bq_refl w) k hlt
      have hsk := Hf.sk_take zs k 16 hlt
      have hst := Hf.st_take zs k 16 hlt
      have hcn := Hf.cn_take zs k 1 hlt
      rw [← HX.out] at hsk
      rw [← HY.out] at hst
      rw [← HQ.out] at hcn
      obtain ⟨z, hz⟩ : ∃ z, z = zs[k] := ⟨_, rfl⟩
      rw [← hz] at hz0 hz1 hcell hsk hst hcn
      have HZ := Lib.hid hz
      clear hz
      have HSK := Lib.hid hsk
      have HST := Lib.hid hst
      have HCN := Lib.hid hcn
      clear hsk hst hcn
      by_cases c1 : z < 0
      · have HN := Lib.hid (errN_bad zs hl k hlt (Or.inl (HZ.out ▸ c1)))
        go_wp2
        go_ret
        exact ⟨by rw [HN.out]; rfl, rfl⟩
      · by_cases c2 : 15 < z
        · have HN := Lib.hid (errN_bad zs hl k hlt (Or.inr (HZ.out ▸ c2)))
          go_wp2
          go_ret
          exact ⟨by rw [HN.out]; rfl, rfl⟩
        · have HR2 : Hid (∀ j (h : j < zs.length), j < k + 1 → 0 ≤ zs[j] ∧ zs[j] ≤ 15) := Lib.hid (by
            intro j h hj
            by_cases e : j = k
            · subst e; rw [← HZ.out]; omega
            · exact HR.out j h (by omega))
          clear HR
          by_cases c3 : 0 < z
          · obtain ⟨m, rfl⟩ : ∃ m : Nat, z = (m : Int) := ⟨z.toNat, by omega⟩
            have hm : m ≤ 15 := by omega
            have HSK2 : Hid (Hf.sk (zs.take (k + 1)) 16 = x + B.P2 (15 - m)) := Lib.hid (by rw [HSK.out, if_pos (by omega)]; rfl)
            have HST2 : Hid (Hf.st (zs.take (k + 1)) 16 = y + 1) := Lib.hid (by rw [HST.out, if_pos (by omega)])
            clear HSK HST
            by_cases c4 : m = 1
            · have t1 : ((m : Int) == 1) = true := by rw [beq_iff_eq]; omega
              have HCN2 : Hid (Hf.cn (zs.take (k + 1)) 1 = q + 1) := Lib.hid (by rw [HCN.out, if_pos (by omega)])
              clear HCN c4
              go_wp2_with fail
              go_loop [7, 8] (fun p j => HvRel m p j) (fun _ j => m - (intOf j).toNat)
              case atStart => exact ⟨0, 32768, by omega, rfl, rfl, rfl, by omega⟩
              case round =>
                obtain ⟨i, v, hi, rfl, rfl, hv, hv2⟩ := hrel
                have HV := Lib.hid hv
                clear hv
                by_cases hil : i < m
                · go_wp2
                  go_round
                  case rel => exact ⟨i + 1, v / 2, by omega, by go_num, by go_num, by rw [HV.out]; exact hv_step i m hil hm, by omega⟩
                  case measure => simp [intOf]; omega
                · obtain rfl : i = m := by omega
                  go_wp2
                  go_round
                  case rel => exact ⟨k + 1, x + v, y + 1, q + 1, by omega, by go_num, by go_num, by go_num, by go_num, by rw [HSK2.out, HV.out], HST2.out.symm, HCN2.out.symm, HR2.out⟩
                  case measure => simp [intOf]; omega
            · have t1 : ((m : Int) == 1) = false := by rw [beq_eq_false_iff_ne]; omega
              have HCN2 : Hid (Hf.cn (zs.take (k + 1)) 1 = q) := Lib.hid (by rw [HCN.out, if_neg (by omega)]; rfl)
              clear HCN c4
              go_wp2_with fail
              go_loop [7, 8] (fun p j => HvRel m p j) (fun _ j => m - (intOf j).toNat)
              case atStart => exact ⟨0, 32768, by omega, rfl, rfl, rfl, by omega⟩
              case round =>
                obtain ⟨i, v, hi, rfl, rfl, hv, hv2⟩ := hrel
                have HV := Lib.hid hv
                clear hv
                by_cases hil : i < m
                · go_wp2
                  go_round
                  case rel => exact ⟨i + 1, v / 2, by omega, by go_num, by go_num, by rw [HV.out]; exact hv_step i m hil hm, by omega⟩
                  case measure => simp [intOf]; omega
                · obtain rfl : i = m := by omega
                  go_wp2
                  go_round
                  case rel => exact ⟨k + 1, x + v, y + 1, q, by omega, by go_num, by go_num, by go_num, by go_num, by rw [HSK2.out, HV.out], HST2.out.symm, HCN2.out.symm, HR2.out⟩
                  case measure => simp [intOf]; omega
          · obtain rfl : z = 0 := by omega
            have HSK2 : Hid (Hf.sk (zs.take (k + 1)) 16 = x) := Lib.hid (by rw [HSK.out, if_neg (by omega)]; rfl)
            have HST2 : Hid (Hf.st (zs.take (k + 1)) 16 = y) := Lib.hid (by rw [HST.out, if_neg (by omega)]; rfl)
            have HCN2 : Hid (Hf.cn (zs.take (k + 1)) 1 = q) := Lib.hid (by rw [HCN.out, if_neg (by omega)]; rfl)
            clear HSK HST HCN
            go_wp2
            go_round
            case rel => exact ⟨k + 1, x, y, q, by omega, by go_num, rfl, rfl, rfl, HSK2.out.symm, HST2.out.symm, HCN2.out.symm, HR2.out⟩
            case measure => simp [intOf]; omega
    · obtain rfl : k = zs.length := by omega
      have hin : Hf.inR zs := fun i h => HR.out i h h
      have hen := errN_tab zs hl hin
      have ht : Hf.tabB zs = (x == 32768 || y == 0 || (y == 1 && q == 1)) := by
        have h1 := HX.out
        have h2 := HY.out
        have h3 := HQ.out
        rw [List.take_length] at h1 h2 h3
        unfold Hf.tabB
        rw [← h1, ← h2, ← h3]
      rw [ht] at hen
      have HN := Lib.hid hen
      clear hen ht hin HR HX HY HQ
      by_cases e1 : x = 32768
      · have q1 : ((x : Int) == 32768) = true := by rw [beq_iff_eq]; omega
        have HM : Hid (errN zs = 0) := Lib.hid (by rw [HN.out, e1]; rfl)
        clear e1 HN
        go_wp2
        go_ret
        exact ⟨by rw [HM.out]; rfl, rfl⟩
      · have q1 : ((x : Int) == 32768) = false := by rw [beq_eq_false_iff_ne]; omega
        have q1' : (x == 32768) = false := by rw [beq_eq_false_iff_ne]; exact e1
        rw [q1'] at HN
        clear e1 q1'
        by_cases e2 : y = 0
        · subst e2
          have HM : Hid (errN zs = 0) := Lib.hid (by rw [HN.out]; rfl)
          clear HN
          go_wp2
          go_ret
          exact ⟨by rw [HM.out]; rfl, rfl⟩
        · have q2 : ((y : Int) == 0) = false := by rw [beq_eq_false_iff_ne]; omega
          have q2' : (y == 0) = false := by rw [beq_eq_false_iff_ne]; exact e2
          rw [q2'] at HN
          clear e2 q2'
          by_cases e3 : y = 1
          · subst e3
            by_cases e4 : q = 1
            · subst e4
              have HM : Hid (errN zs = 0) := Lib.hid (by rw [HN.out]; rfl)
              clear HN
              go_wp2
              go_ret
              exact ⟨by rw [HM.out]; rfl, rfl⟩
            · have q4 : ((q : Int) == 1) = false := by rw [beq_eq_false_iff_ne]; omega
              have q4' : (q == 1) = false := by rw [beq_eq_false_iff_ne]; exact e4
              rw [q4'] at HN
              have HM : Hid (errN zs = 4) := Lib.hid (by rw [HN.out]; rfl)
              clear HN e4 q4'
              go_wp2
              go_ret
              exact ⟨by rw [HM.out]; rfl, rfl⟩
          · have q3 : ((y : Int) == 1) = false := by rw [beq_eq_false_iff_ne]; omega
            have q3' : (y == 1) = false := by rw [beq_eq_false_iff_ne]; exact e3
            rw [q3'] at HN
            have HM : Hid (errN zs = 4) := Lib.hid (by rw [HN.out]; rfl)
            clear HN e3 q3'
            go_wp2
            go_ret
            exact ⟨by rw [HM.out]; rfl, rfl⟩
theorem err_any (zs : List Int) (a : Option Addr) (b o c : Nat) (w : World) (hl : zs.length ≤ 9223372036854775807) (ha : Hid (Ints w zs a b o)) :
    Calls Tryd.prog 46 #[.slice a zs.length c] w fun e w' => e = .returned (.int .i64 (errN zs : Int)) ∧ w = w' := by
  by_cases h : 320 < zs.length
  · rw [errN_long zs h]
    exact err_long zs.length a c w h hl
  · exact err_few zs a b o c w (by omega) ha
end Go.Proofs.YtddiccdfeckgaaaDoor
/- Layer 4: the document's codes of lengths. -/
namespace Go.Proofs.YtddiccdfeckgaaaDoor
open Go.RowKit
set_option linter.unusedVariables false

def RcRel (zs : List Int) (w : World) (b : Nat) (i : Value) (wr : World) : Prop :=
  ∃ k : Nat, k ≤ zs.length ∧ i = .int .i64 k ∧ Blk wr b (intA (upto (Hf.cd zs) k) zs.length) 3 ∧ Below w.heap.size w wr
def AhRel (zs : List Int) (w : World) (b k : Nat) (n : Int) (s j : Value) (wr : World) : Prop :=
  ∃ i x : Nat, i ≤ zs.length ∧ j = .int .i64 i ∧ s = .int .i64 (x : Int) ∧ x = Hf.ah zs n k i ∧ Blk wr b (intA (upto (Hf.cd zs) k) zs.length) 3 ∧ Below w.heap.size w wr
def HsRel (X n : Nat) (s j : Value) : Prop := ∃ i y : Nat, n ≤ i ∧ i ≤ 15 ∧ j = .int .i64 i ∧ s = .int .i64 (y : Int) ∧ y = X / B.P2 (i - n) ∧ y ≤ 10485760
theorem ah_bd (zs : List Int) (hl : zs.length ≤ 320) (n : Int) (k i : Nat) (h : i ≤ zs.length) : Hf.ah zs n k i ≤ 10485760 := by
  have h1 := Hf.ah_le zs n k i
  have h2 : i * 32768 ≤ 320 * 32768 := Nat.mul_le_mul_right _ (by omega)
  exact Nat.le_trans h1 h2
theorem ah_next (zs : List Int) (n : Int) (k i : Nat) (h : i < zs.length) : Hf.ah zs n k (i + 1) = Hf.ah zs n k i + if 0 < zs[i] ∧ (zs[i] < n ∨ zs[i] = n ∧ i < k) then B.P2 (15 - zs[i].toNat) else 0 := by
  rw [Hf.ah, Hf.getD_eq zs i h]
theorem hs_step (X i n : Nat) (h : n ≤ i) : X / B.P2 (i - n) / 2 = X / B.P2 (i + 1 - n) := by
  rw [half_div]; congr 2; omega
def RcPost (zs : List Int) (w : World) (e : Ending) (w' : World) : Prop :=
  ∃ b, w.heap.size ≤ b ∧ Blk w' b (intA (Hf.cd zs) zs.length) 3 ∧ e = .returned (.slice (some ⟨b, 0, none⟩) zs.length zs.length) ∧ Below w.heap.size w w'
set_option maxHeartbeats 4000000 in
set_option maxRecDepth 100000 in
theorem rcodes_any (zs : List Int) (a : Option Addr) (b o c : Nat) (w : World) (hl : zs.length ≤ 320) (hin : Hid (Hf.inR zs)) (ha : Hid (Ints w zs a b o)) :
    Calls Tryd.prog 89 #[.slice a zs.length c] w fun e w' => RcPost zs w e w' := by
  go_enter Tryd.func89, Tryd.ntmps89
  go_wp2_with (refine wl_ints _ _ rfl rfl zs.length rfl rfl (by omega) ?_; intro W8 b8 B8 l8 k8)
  have HE := Lib.hid k8
  clear k8
  go_loopw [4] (fun i wr => RcRel zs w b8 i wr) (fun i _ => zs.length - (intOf i).toNat)
  case atStart => exact ⟨0, by omega, rfl, by rw [up_start]; exact B8, HE.out⟩
  case round =>
    obtain ⟨k, hk, rfl, hb8, hbel⟩ := hrel
    have HB := Lib.hid hbel
    clear hbel B8 HE
    by_cases hlt : k < zs.length
    · obtain ⟨rfl, hz0, hz1, hcell⟩ := ha.out.at HB.out k hlt
      have hik := hin.out k hlt
      obtain ⟨z, hz⟩ : ∃ z, z = zs[k] := ⟨_, rfl⟩
      rw [← hz] at hz0 hz1 hcell hik
      have HZ := Lib.hid hz
      clear hz
      by_cases c0 : z = 0
      · subst c0
        rw [cd_skip zs k hlt HZ.out.symm] at hb8
        go_wp2
        go_roundw
        case rel => exact ⟨k + 1, by omega, by go_num, hb8, HB.out⟩
        case measure => simp [intOf]; omega
      · obtain ⟨n, rfl⟩ : ∃ n : Nat, z = (n : Int) := ⟨z.toNat, by omega⟩
        have t0 : ((n : Int) == 0) = false := by rw [beq_eq_false_iff_ne]; omega
        have hn1 : 1 ≤ n := by omega
        have hn2 : n ≤ 15 := by omega
        clear c0 hik hz0 hz1
        go_wp2_with fail
        have HC := Lib.hid hcell
        clear hcell
        go_loopw [5, 6] (fun s j w2 => AhRel zs w b8 k n s j w2) (fun _ j _ => zs.length - (intOf j).toNat)
        case atStart => exact ⟨0, 0, by omega, rfl, rfl, rfl, hb8, HB.out⟩
        case round =>
          obtain ⟨i, x, hi, rfl, rfl, hx, hb8, hbel⟩ := hrel
          have bx := ah_bd zs hl n k i hi
          rw [← hx] at bx
          have HX := Lib.hid hx
          have HB2 := Lib.hid hbel
          clear hx hbel HC HB
          have hck := (ha.out.at HB2.out k hlt).2.2.2
          rw [← HZ.out] at hck
          by_cases hil : i < zs.length
          · have hci := (ha.out.at HB2.out i hil).2.2.2
            have hri := hin.out i hil
            have hst := ah_next zs n k i hil
            rw [← HX.out] at hst
            obtain ⟨v, hv⟩ : ∃ v, v = zs[i] := ⟨_, rfl⟩
            rw [← hv] at hci hri hst
            clear hv HX
            obtain ⟨m, rfl⟩ : ∃ m : Nat, v = (m : Int) := ⟨v.toNat, by omega⟩
            have hm : m ≤ 15 := by omega
            clear hri
            by_cases c1 : 0 < m
            · have d1 : decide (0 < (m : Int)) = true := by simp; omega
              by_cases c2 : m < n
              · have d2 : decide (m < n) = true := by simp; omega
                have HS : Hid (Hf.ah zs n k (i + 1) = x + B.P2 (15 - m)) := Lib.hid (by rw [hst, if_pos (by omega)]; rfl)
                clear hst
                go_wp2_with fail
                go_quiet (fail)
                go_wp2_with fail
                go_loop [7, 8] (fun p j => HvRel m p j) (fun _ j => m - (intOf j).toNat)
                case atStart => exact ⟨0, 32768, by omega, rfl, rfl, rfl, by omega⟩
                case round =>
                  obtain ⟨r, y, hr, rfl, rfl, hy, hy2⟩ := hrel
                  have HY := Lib.hid hy
                  clear hy
                  by_cases hrl : r < m
                  · go_wp2
                    go_round
                    case rel => exact ⟨r + 1, y / 2, by omega, by go_num, by go_num, by rw [HY.out]; exact hv_step r m hrl hm, by omega⟩
                    case measure => simp [intOf]; omega
                  · obtain rfl : r = m := by omega
                    go_wp2
                    go_roundw
                    case rel => exact ⟨i + 1, x + y, by omega, by go_num, by go_num, by rw [HS.out, HY.out], hb8.drewN _, bq_drewN HB2.out _⟩
                    case measure => simp [intOf]; omega
              · have d2 : decide (m < n) = false := by simp; omega
                by_cases c3 : m = n
                · subst c3
                  by_cases c4 : i < k
                  · have d4 : decide (i < k) = true := by simp; omega
                    have HS : Hid (Hf.ah zs m k (i + 1) = x + B.P2 (15 - m)) := Lib.hid (by rw [hst, if_pos (by omega)]; rfl)
                    clear hst
                    go_wp2_with fail
                    go_quiet (fail)
                    go_wp2_with fail
                    go_loop [7, 8] (fun p j => HvRel m p j) (fun _ j => m - (intOf j).toNat)
                    case atStart => exact ⟨0, 32768, by omega, rfl, rfl, rfl, by omega⟩
                    case round =>
                      obtain ⟨r, y, hr, rfl, rfl, hy, hy2⟩ := hrel
                      have HY := Lib.hid hy
                      clear hy
                      by_cases hrl : r < m
                      · go_wp2
                        go_round
                        case rel => exact ⟨r + 1, y / 2, by omega, by go_num, by go_num, by rw [HY.out]; exact hv_step r m hrl hm, by omega⟩
                        case measure => simp [intOf]; omega
                      · obtain rfl : r = m := by omega
                        go_wp2
                        go_roundw
                        case rel => exact ⟨i + 1, x + y, by omega, by go_num, by go_num, by rw [HS.out, HY.out], hb8.drewN _, bq_drewN HB2.out _⟩
                        case measure => simp [intOf]; omega
                  · have d4 : decide (i < k) = false := by simp; omega
                    have HS : Hid (Hf.ah zs m k (i + 1) = x) := Lib.hid (by rw [hst, if_neg (by omega)]; rfl)
                    clear hst
                    go_wp2_with fail
                    go_quiet (fail)
                    go_wp2
                    go_roundw
                    case rel => exact ⟨i + 1, x, by omega, by go_num, rfl, HS.out.symm, hb8.drewN _, bq_drewN HB2.out _⟩
                    case measure => simp [intOf]; omega
                · have d3 : ((m : Int) == (n : Int)) = false := by rw [beq_eq_false_iff_ne]; omega
                  have d3n : (m == n) = false := by rw [beq_eq_false_iff_ne]; omega
                  have HS : Hid (Hf.ah zs n k (i + 1) = x) := Lib.hid (by rw [hst, if_neg (by omega)]; rfl)
                  clear hst
                  go_wp2_with fail
                  go_quiet (fail)
                  go_wp2
                  go_roundw
                  case rel => exact ⟨i + 1, x, by omega, by go_num, rfl, HS.out.symm, hb8.drewN _, bq_drewN HB2.out _⟩
                  case measure => simp [intOf]; omega
            · have d1 : decide (0 < (m : Int)) = false := by simp; omega
              have HS : Hid (Hf.ah zs n k (i + 1) = x) := Lib.hid (by rw [hst, if_neg (by omega)]; rfl)
              clear hst
              go_wp2_with fail
              go_quiet (fail)
              go_wp2
              go_roundw
              case rel => exact ⟨i + 1, x, by omega, by go_num, rfl, HS.out.symm, hb8.drewN _, bq_drewN HB2.out _⟩
              case measure => simp [intOf]; omega
          · obtain rfl : i = zs.length := by omega
            have hcd := Hf.ah_cd zs k hlt (by rw [← HZ.out]; omega) (by rw [← HZ.out]; omega)
            rw [← HZ.out, ← HX.out, Int.toNat_natCast] at hcd
            have HCD := Lib.hid hcd
            clear hcd HX
            go_wp2_with fail
            go_loop [5, 9] (fun s j => HsRel x n s j) (fun _ j => 15 - (intOf j).toNat)
            case atStart => exact ⟨n, x, by omega, by omega, rfl, rfl, by rw [Nat.sub_self, B.P2_zero, Nat.div_one], bx⟩
            case round =>
              obtain ⟨r, y, hr, hr2, rfl, rfl, hy, hy2⟩ := hrel
              have HY := Lib.hid hy
              clear hy
              by_cases hrl : r < 15
              · go_wp2
                go_round
                case rel => exact ⟨r + 1, y / 2, by omega, by omega, by go_num, by go_num, by rw [HY.out]; exact hs_step x r n hr, by omega⟩
                case measure => simp [intOf]; omega
              · obtain rfl : r = 15 := by omega
                have hcell8 := (hb8.cell k).trans (intA_at _ _ k hlt)
                have hf8 := hb8.frozen k
                have HS := Lib.hid (hb8.set k (.int .i64 (Hf.cd zs k : Int)))
                rw [cd_step, ← HCD.out, ← HY.out] at HS
                generalize upto (Hf.cd zs) k k = q at *
                clear hb8
                go_wp2
                go_roundw
                case rel => exact ⟨k + 1, by omega, by go_num, HS.out, bq_set HB2.out _ l8 _⟩
                case measure => simp [intOf]; omega
    · obtain rfl : k = zs.length := by omega
      rw [up_end] at hb8
      go_wp2
      go_ret
      exact ⟨b8, l8, hb8, rfl, HB.out⟩
end Go.Proofs.YtddiccdfeckgaaaDoor
/- Layer 4: the document's symbol at a bit. -/
namespace Go.Proofs.YtddiccdfeckgaaaDoor
open Go.RowKit
set_option linter.unusedVariables false

/-- of the first j symbols: does a longer code begin so; none is just so -/
def Bg (zs : List Int) (n c j : Nat) (t : Bool) : Prop :=
  (t = true ↔ ∃ k, ∃ h : k < zs.length, k < j ∧ (n : Int) < zs[k] ∧ Hf.cd zs k / B.P2 (zs[k].toNat - n) = c) ∧ ∀ k (h : k < zs.length), k < j → ¬ (zs[k] = (n : Int) ∧ 0 < n ∧ Hf.cd zs k = c)
theorem bg_start (zs : List Int) (n c : Nat) : Bg zs n c 0 false :=
  ⟨⟨fun h => Bool.noConfusion h, fun ⟨k, h, hk, _⟩ => by omega⟩, fun k h hk => by omega⟩
theorem bg_same {zs : List Int} {n c j : Nat} {t : Bool} (h : Bg zs n c j t) (hj : j < zs.length) (h1 : ¬ ((n : Int) < zs[j] ∧ Hf.cd zs j / B.P2 (zs[j].toNat - n) = c)) (h2 : ¬ (zs[j] = (n : Int) ∧ 0 < n ∧ Hf.cd zs j = c)) : Bg zs n c (j + 1) t := by
  refine ⟨h.1.trans ⟨?_, ?_⟩, ?_⟩
  · rintro ⟨k, hk, a, b⟩; exact ⟨k, hk, by omega, b⟩
  · rintro ⟨k, hk, a, b⟩
    by_cases e : k = j
    · subst e; exact absurd b h1
    · exact ⟨k, hk, by omega, b⟩
  · intro k hk a
    by_cases e : k = j
    · subst e; exact h2
    · exact h.2 k hk (by omega)
theorem bg_more {zs : List Int} {n c j : Nat} {t : Bool} (h : Bg zs n c j t) (hj : j < zs.length) (h1 : (n : Int) < zs[j] ∧ Hf.cd zs j / B.P2 (zs[j].toNat - n) = c) : Bg zs n c (j + 1) true := by
  refine ⟨⟨fun _ => ⟨j, hj, by omega, h1⟩, fun _ => rfl⟩, ?_⟩
  intro k hk a
  by_cases e : k = j
  · subst e; intro b; omega
  · exact h.2 k hk (by omega)
theorem bg_skip {zs : List Int} {n c j m : Nat} {t : Bool} (h : Bg zs n c j t) (hj : j < zs.length) (hm : zs[j] = (m : Int)) (h1 : m < n ∨ m = 0) : Bg zs n c (j + 1) t :=
  bg_same h hj (by rw [hm]; omega) (by rw [hm]; omega)
theorem bg_other {zs : List Int} {n c j m : Nat} {t : Bool} (h : Bg zs n c j t) (hj : j < zs.length) (hm : zs[j] = (m : Int)) (h1 : Hf.cd zs j / B.P2 (m - n) ≠ c) : Bg zs n c (j + 1) t := by
  refine bg_same h hj (fun a => h1 ?_) (fun a => h1 ?_)
  · have := a.2; rwa [hm, Int.toNat_natCast] at this
  · have e : m = n := by have := a.1; omega
    rw [e, Nat.sub_self, B.P2_zero, Nat.div_one]; exact a.2.2
theorem bg_more2 {zs : List Int} {n c j m : Nat} {t : Bool} (h : Bg zs n c j t) (hj : j < zs.length) (hm : zs[j] = (m : Int)) (h0 : n < m) (h1 : Hf.cd zs j / B.P2 (m - n) = c) : Bg zs n c (j + 1) true :=
  bg_more h hj ⟨by omega, by rw [hm, Int.toNat_natCast]; exact h1⟩
theorem bg_end {zs : List Int} {n c : Nat} {t : Bool} (h : Bg zs n c zs.length t) (hR : Hf.inR zs) (hT : Hf.tabB zs = true) (hn : n ≤ 15) (hc : c < B.P2 n) (hl : Hf.fs zs n ≤ c) : ¬ c < Hf.fs zs n + Hf.cn zs n ∧ (t = true ↔ Hf.st zs (n + 1) < Hf.st zs 16) := by
  have h1 : ¬ c < Hf.fs zs n + Hf.cn zs n := by
    intro a
    obtain ⟨k, hk, z1, z2, z3⟩ := Hf.hit_of zs n c hl a
    exact h.2 k hk hk ⟨z1, z2, z3⟩
  refine ⟨h1, ?_⟩
  rw [← Hf.more_iff zs hR hT n c hn hc (by omega)]
  exact h.1.trans ⟨fun ⟨k, hk, _, b⟩ => ⟨k, hk, b⟩, fun ⟨k, hk, b⟩ => ⟨k, hk, hk, b⟩⟩
def BgRel (zs : List Int) (n c : Nat) (g i : Value) : Prop := ∃ j : Nat, ∃ t : Bool, j ≤ zs.length ∧ i = .int .i64 j ∧ g = .bool t ∧ Bg zs n c j t
def RxRel (zs : List Int) (s : ByteArray) (p : Nat) (R : Nat × Nat × Nat) (c i : Value) : Prop :=
  ∃ n x : Nat, n ≤ 15 ∧ i = .int .i64 n ∧ c = .int .i64 (x : Int) ∧ x < B.P2 n ∧ Hf.fs zs n ≤ x ∧ Hf.decF zs (fun m => bt s (p + m)) n x = R ∧ (0 < n → p + n ≤ 8 * s.size)
def CkRel (X n m : Nat) (s j : Value) : Prop := ∃ i y : Nat, n ≤ i ∧ i ≤ m ∧ j = .int .i64 i ∧ s = .int .i64 (y : Int) ∧ y = X / B.P2 (i - n) ∧ y ≤ 20000000
theorem rnext_arg (a : Option Addr) (l c : Nat) (s : ByteArray) (at_ : Int) (w : World) (h : at_ < 0) :
    Calls Tryd.prog 70 #[.slice a l c, .string s, .int .i64 at_] w fun e w' => e = .returned (.tuple #[.int .i64 0, .int .i64 0, .int .i64 1]) ∧ Below w.heap.size w w' := by
  go_enter Tryd.func70, Tryd.ntmps70
  go_wp2
  go_ret3
  exact ⟨rfl, bq_refl w⟩
set_option maxHeartbeats 4000000 in
set_option maxRecDepth 100000 in
theorem rnext_some (zs : List Int) (a : Option Addr) (b o c : Nat) (s : ByteArray) (p : Nat) (w : World) (hs : s.size ≤ 1099511627776) (hp : p ≤ 9223372036854775807) (ha : Hid (Ints w zs a b o)) (he : Hid (errN zs = 0)) :
    Calls Tryd.prog 70 #[.slice a zs.length c, .string s, .int .i64 p] w fun e w' => e = .returned (nxV p (Hf.nx zs fun m => bt s (p + m))) ∧ Below w.heap.size w w' := by
  obtain ⟨hl, hR, hT⟩ := errN_ok he.out
  have HIN := Lib.hid hR
  have HT := Lib.hid hT
  have HRC := Lib.hid (rcodes_any zs a b o c w hl HIN ha)
  obtain ⟨R, hRe⟩ : ∃ R, Hf.nx zs (fun m => bt s (p + m)) = R := ⟨_, rfl⟩
  rw [hRe]
  rw [Hf.nx_eq] at hRe
  have HR := Lib.hid hRe
  clear hRe hR hT he
  go_enter Tryd.func70, Tryd.ntmps70
  go_wp2_with (go_at_call 89; refine HRC.out.mono ?_; rintro e w1 ⟨b9, l9, hb9, rfl, hbel⟩)
  have HB := Lib.hid hbel
  have HA := Lib.hid (ha.out.keep hbel)
  clear hbel l9 HRC ha
  go_loop [10, 11] (fun c i => RxRel zs s p R c i) (fun _ i => 16 - (intOf i).toNat)
  case atStart => exact ⟨0, 0, by omega, rfl, rfl, by rw [B.P2_zero]; omega, Nat.le_refl _, HR.out, fun h => by omega⟩
  case round =>
    obtain ⟨n, x, hn, rfl, rfl, hx, hfx, hdec, hin⟩ := hrel
    have hx2 := P2_15 n hn
    have hxb : x < 32768 := by omega
    have HX := Lib.hid hx
    have HF := Lib.hid hfx
    have HD := Lib.hid hdec
    clear hx hfx hdec hx2 HR
    go_wp2_with fail
    go_loop [12, 13] (fun g i => BgRel zs n x g i) (fun _ i => zs.length - (intOf i).toNat)
    case atStart => exact ⟨0, false, by omega, rfl, rfl, bg_start zs n x⟩
    case round =>
      obtain ⟨i, t, hi, rfl, rfl, hbg⟩ := hrel
      have HG := Lib.hid hbg
      clear hbg
      by_cases hil : i < zs.length
      · obtain ⟨rfl, hz0, hz1, hcell⟩ := HA.out.at (bq_refl w1) i hil
        have hri := HIN.out i hil
        obtain ⟨z, hz⟩ : ∃ z, z = zs[i] := ⟨_, rfl⟩
        rw [← hz] at hz0 hz1 hcell hri
        have HZ := Lib.hid hz
        clear hz
        obtain ⟨m, rfl⟩ : ∃ m : Nat, z = (m : Int) := ⟨z.toNat, by omega⟩
        have hm : m ≤ 15 := by omega
        clear hz0 hz1 hri
        by_cases c1 : m < n
        · have d1 : decide (m < n) = true := by simp; omega
          have HG2 := Lib.hid (bg_skip HG.out hil HZ.out.symm (Or.inl c1))
          go_wp2
          go_round
          case rel => exact ⟨i + 1, t, by omega, by go_num, rfl, HG2.out⟩
          case measure => simp [intOf]; omega
        · have d1 : decide (m < n) = false := by simp; omega
          by_cases c2 : m = 0
          · have HG2 := Lib.hid (bg_skip HG.out hil HZ.out.symm (Or.inr c2))
            subst c2
            go_wp2
            go_round
            case rel => exact ⟨i + 1, t, by omega, by go_num, rfl, HG2.out⟩
            case measure => simp [intOf]; omega
          · have d2 : ((m : Int) == 0) = false := by rw [beq_eq_false_iff_ne]; omega
            have hc9 := (hb9.cell i).trans (intA_at _ _ i hil)
            have bc : Hf.cd zs i ≤ 20000000 := by
              rcases cd_bd zs hl i with h | h
              · exact h
              · rw [Hf.getD_eq zs i hil, ← HZ.out, Int.toNat_natCast] at h
                omega
            obtain ⟨q, hq⟩ : ∃ q, q = Hf.cd zs i := ⟨_, rfl⟩
            rw [← hq] at hc9 bc
            have HQ := Lib.hid hq
            clear hq c2
            go_wp2_with fail
            go_loop [14, 15] (fun s j => CkRel q n m s j) (fun _ j => m - (intOf j).toNat)
            case atStart => exact ⟨n, q, by omega, by omega, rfl, rfl, by rw [Nat.sub_self, B.P2_zero, Nat.div_one], bc⟩
            case round =>
              obtain ⟨r, y, hr, hr2, rfl, rfl, hy, hy2⟩ := hrel
              have HY := Lib.hid hy
              clear hy
              by_cases hrl : r < m
              · go_wp2
                go_round
                case rel => exact ⟨r + 1, y / 2, by omega, by omega, by go_num, by go_num, by rw [HY.out]; exact hs_step q r n hr, by omega⟩
                case measure => simp [intOf]; omega
              · obtain rfl : r = m := by omega
                by_cases c3 : y = x
                · have d3 : ((y : Int) != (x : Int)) = false := by rw [c3]; simp
                  by_cases c4 : r = n
                  · have d4 : ((r : Int) == (n : Int)) = true := by rw [c4]; simp
                    have hn0 : 0 < n := by
                      have : ((r : Int) == 0) = false := d2
                      rw [beq_eq_false_iff_ne] at this
                      omega
                    have h8 := hin hn0
                    have hcd : Hf.cd zs i = x := by rw [← HQ.out, ← c3, HY.out, c4, Nat.sub_self, B.P2_zero, Nat.div_one]
                    obtain ⟨g1, g2⟩ := Hf.hit_sym zs n x i hil hn0 (by rw [← HZ.out, c4]) hcd
                    have hRR : R = (i, n, 0) := by rw [← HD.out, Hf.decF_hit zs _ n x g1, g2]
                    have HRR := Lib.hid hRR
                    clear hRR g1 g2 hcd hin c4 c3
                    go_wp2
                    go_ret3
                    exact ⟨by rw [HRR.out, nxV_0]; rfl, HB.out⟩
                  · have d4 : ((r : Int) == (n : Int)) = false := by rw [beq_eq_false_iff_ne]; omega
                    have HG2 := Lib.hid (bg_more2 HG.out hil HZ.out.symm (by omega) (by rw [← HQ.out, ← HY.out]; exact c3))
                    clear c3 c4 hin
                    go_wp2
                    go_round
                    case rel => exact ⟨i + 1, true, by omega, by go_num, rfl, HG2.out⟩
                    case measure => simp [intOf]; omega
                · have d3 : ((y : Int) != (x : Int)) = true := by rw [bne_iff_ne]; omega
                  have HG2 := Lib.hid (bg_other HG.out hil HZ.out.symm (by rw [← HQ.out, ← HY.out]; exact c3))
                  clear c3 hin
                  go_wp2
                  go_round
                  case rel => exact ⟨i + 1, t, by omega, by go_num, rfl, HG2.out⟩
                  case measure => simp [intOf]; omega
      · obtain rfl : i = zs.length := by omega
        obtain ⟨hmiss, hiff⟩ := bg_end HG.out HIN.out HT.out hn HX.out HF.out
        have hd2 := Hf.decF_miss zs (fun m => bt s (p + m)) n x hmiss
        rw [HD.out] at hd2
        have HD2 := Lib.hid hd2
        have HMI := Lib.hid hmiss
        clear hd2 HG hmiss
        cases t with
        | false =>
          have hst : ¬ Hf.st zs (n + 1) < Hf.st zs 16 := fun h => by have := hiff.2 h; cases this
          have hRR : R = (0, 0, 4) := by rw [HD2.out]; exact Hf.dec_none zs _ _ n x (by omega)
          have HRR := Lib.hid hRR
          clear hRR hst hiff hin
          go_wp2
          go_ret3
          exact ⟨by rw [HRR.out, nxV_4]; rfl, HB.out⟩
        | true =>
          have hst := hiff.1 rfl
          have hn15 : n < 15 := by
            by_cases e : n = 15
            · subst e; exact absurd hst (Nat.lt_irrefl _)
            · omega
          have HS := Lib.hid hst
          clear hst hiff
          by_cases c2 : p + n < 8 * s.size
          · have HBT := Lib.hid (rbit_yes s (p + n) w1 hs c2)
            have ej : ((p + n : Nat) : Int) = (p : Int) + (n : Int) := by omega
            rw [ej] at HBT
            have hb2 := btv_lt s (p + n)
            have hstep := Hf.dec_step zs (fun m => bt s (p + m)) n x (btv s (p + n)) hn15 (by have := HS.out; omega) (bt_some s (p + n) c2)
            rw [← HD2.out] at hstep
            have HSTEP := Lib.hid hstep
            clear hstep ej hin
            generalize btv s (p + n) = u at *
            go_wp2_with (go_at_call 45; refine HBT.out.mono ?_; rintro e w' ⟨rfl, rfl⟩)
            go_round
            case rel => exact ⟨n + 1, 2 * x + u, by omega, by go_num, by go_num, by rw [B.P2_succ]; have := HX.out; omega, by rw [Hf.fs_succ]; have := HMI.out; omega, HSTEP.out.symm, fun _ => by omega⟩
            case measure => simp [intOf]; omega
          · have hRR : R = (0, 0, 2) := by rw [HD2.out]; exact Hf.dec_short zs _ n x hn15 (by have := HS.out; omega) (bt_none s (p + n) c2)
            have HRR := Lib.hid hRR
            clear hRR
            by_cases n0 : n = 0
            · subst n0
              have HBT := Lib.hid (rbit_no s p w1 hs (Or.inr (by omega)) (by omega))
              clear hin
              go_wp2_with (go_at_call 45; refine HBT.out.mono ?_; rintro e w' ⟨rfl, rfl⟩)
              go_ret3
              exact ⟨by rw [HRR.out, nxV_2]; rfl, HB.out⟩
            · have h8 := hin (by omega)
              have HBT := Lib.hid (rbit_no s ((p : Int) + (n : Int)) w1 hs (Or.inr (by omega)) (by omega))
              clear hin
              go_wp2_with (go_at_call 45; refine HBT.out.mono ?_; rintro e w' ⟨rfl, rfl⟩)
              go_ret3
              exact ⟨by rw [HRR.out, nxV_2]; rfl, HB.out⟩
theorem rnext_any (zs : List Int) (a : Option Addr) (b o c : Nat) (s : ByteArray) (at_ : Int) (w : World) (hs : s.size ≤ 1099511627776) (hp : at_ ≤ 9223372036854775807) (ha : Hid (Ints w zs a b o)) (he : Hid (errN zs = 0)) :
    Calls Tryd.prog 70 #[.slice a zs.length c, .string s, .int .i64 at_] w fun e w' => e = .returned (nxR zs s at_) ∧ Below w.heap.size w w' := by
  unfold nxR
  by_cases h : at_ < 0
  · rw [if_pos h]; exact rnext_arg a _ c s at_ w h
  · rw [if_neg h]
    obtain ⟨p, rfl⟩ : ∃ p : Nat, at_ = (p : Int) := ⟨at_.toNat, by omega⟩
    exact rnext_some zs a b o c s p w hs (by omega) ha he
end Go.Proofs.YtddiccdfeckgaaaDoor
