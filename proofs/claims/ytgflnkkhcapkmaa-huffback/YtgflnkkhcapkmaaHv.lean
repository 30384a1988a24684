import Derived.Test.YtgflnkkhcapkmaaHu
import Derived.Deep.QuietTactic
import Derived.BigQuiet
/- Layer 4: the document's codes of lengths. -/
namespace Go.Proofs.Ytgflnkkhcapkmaa
open Go.RowKit
set_option linter.unusedVariables false

def RcRel (zs : List Int) (w : World) (b : Nat) (i : Value) (wr : World) : Prop :=
  ∃ k : Nat, k ≤ zs.length ∧ i = .int .i64 k ∧ Blk wr b (intA (upto (Hf.cd zs) k) zs.length) 3 ∧ Below w.heap.size w wr
def AhRel (zs : List Int) (w : World) (b k : Nat) (n : Int) (s j : Value) (wr : World) : Prop :=
  ∃ i x : Nat, i ≤ zs.length ∧ j = .int .i64 i ∧ s = .int .i64 (x : Int) ∧ x = Hf.ah zs n k i ∧ Blk wr b (intA (upto (Hf.cd zs) k) zs.length) 3 ∧ Below w.heap.size w wr
def HsRel (X n : Nat) (s j : Value) : Prop := ∃ i y : Nat, n ≤ i ∧ i ≤ 15 ∧ j = .int .i64 i ∧ s = .int .i64 (y : Int) ∧ y = X / B.P2 (i - n) ∧ y ≤ 10485760
theorem ah_bd (zs : List Int) (hl : zs.length ≤ 320) (n : Int) (k i : Nat) (h : i ≤ zs.length) : Hf.ah zs n k i ≤ 10485760 := by
  have h1 := Hf.ah_le zs n k i
  have h2 : i * 32768 ≤ 320 * 32768 := Nat.mul_le_mul_right _ (by omega)
  exact Nat.le_trans h1 h2
theorem ah_next (zs : List Int) (n : Int) (k i : Nat) (h : i < zs.length) : Hf.ah zs n k (i + 1) = Hf.ah zs n k i + if 0 < zs[i] ∧ (zs[i] < n ∨ zs[i] = n ∧ i < k) then B.P2 (15 - zs[i].toNat) else 0 := by
  rw [Hf.ah, Hf.getD_eq zs i h]
theorem hs_step (X i n : Nat) (h : n ≤ i) : X / B.P2 (i - n) / 2 = X / B.P2 (i + 1 - n) := by
  rw [half_div]; congr 2; omega
def RcPost (zs : List Int) (w : World) (e : Ending) (w' : World) : Prop :=
  ∃ b, w.heap.size ≤ b ∧ Blk w' b (intA (Hf.cd zs) zs.length) 3 ∧ e = .returned (.slice (some ⟨b, 0, none⟩) zs.length zs.length) ∧ Below w.heap.size w w'
set_option maxHeartbeats 4000000 in
set_option maxRecDepth 100000 in
theorem rcodes_any (zs : List Int) (a : Option Addr) (b o c : Nat) (w : World) (hl : zs.length ≤ 320) (hin : Hid (Hf.inR zs)) (ha : Hid (Ints w zs a b o)) :
    Calls Try.prog 12 #[.slice a zs.length c] w fun e w' => RcPost zs w e w' := by
  go_enter Try.func12, Try.ntmps12
  go_wp2_with (refine wl_ints _ _ rfl rfl zs.length rfl rfl (by omega) ?_; intro W8 b8 B8 l8 k8)
  have HE := Lib.hid k8
  clear k8
  go_loopw [4] (fun i wr => RcRel zs w b8 i wr) (fun i _ => zs.length - (intOf i).toNat)
  case atStart => exact ⟨0, by omega, rfl, by rw [up_start]; exact B8, HE.out⟩
  case round =>
    obtain ⟨k, hk, rfl, hb8, hbel⟩ := hrel
    have HB := Lib.hid hbel
    clear hbel B8 HE
    by_cases hlt : k < zs.length
    · obtain ⟨rfl, hz0, hz1, hcell⟩ := ha.out.at HB.out k hlt
      have hik := hin.out k hlt
      obtain ⟨z, hz⟩ : ∃ z, z = zs[k] := ⟨_, rfl⟩
      rw [← hz] at hz0 hz1 hcell hik
      have HZ := Lib.hid hz
      clear hz
      by_cases c0 : z = 0
      · subst c0
        rw [cd_skip zs k hlt HZ.out.symm] at hb8
        go_wp2
        go_roundw
        case rel => exact ⟨k + 1, by omega, by go_num, hb8, HB.out⟩
        case measure => simp [intOf]; omega
      · obtain ⟨n, rfl⟩ : ∃ n : Nat, z = (n : Int) := ⟨z.toNat, by omega⟩
        have t0 : ((n : Int) == 0) = false := by rw [beq_eq_false_iff_ne]; omega
        have hn1 : 1 ≤ n := by omega
        have hn2 : n ≤ 15 := by omega
        clear c0 hik hz0 hz1
        go_wp2_with fail
        have HC := Lib.hid hcell
        clear hcell
        go_loopw [5, 6] (fun s j w2 => AhRel zs w b8 k n s j w2) (fun _ j _ => zs.length - (intOf j).toNat)
        case atStart => exact ⟨0, 0, by omega, rfl, rfl, rfl, hb8, HB.out⟩
        case round =>
          obtain ⟨i, x, hi, rfl, rfl, hx, hb8, hbel⟩ := hrel
          have bx := ah_bd zs hl n k i hi
          rw [← hx] at bx
          have HX := Lib.hid hx
          have HB2 := Lib.hid hbel
          clear hx hbel HC HB
          have hck := (ha.out.at HB2.out k hlt).2.2.2
          rw [← HZ.out] at hck
          by_cases hil : i < zs.length
          · have hci := (ha.out.at HB2.out i hil).2.2.2
            have hri := hin.out i hil
            have hst := ah_next zs n k i hil
            rw [← HX.out] at hst
            obtain ⟨v, hv⟩ : ∃ v, v = zs[i] := ⟨_, rfl⟩
            rw [← hv] at hci hri hst
            clear hv HX
            obtain ⟨m, rfl⟩ : ∃ m : Nat, v = (m : Int) := ⟨v.toNat, by omega⟩
            have hm : m ≤ 15 := by omega
            clear hri
            by_cases c1 : 0 < m
            · have d1 : decide (0 < (m : Int)) = true := by simp; omega
              by_cases c2 : m < n
              · have d2 : decide (m < n) = true := by simp; omega
                have HS : Hid (Hf.ah zs n k (i + 1) = x + B.P2 (15 - m)) := Lib.hid (by rw [hst, if_pos (by omega)]; rfl)
                clear hst
                go_wp2_with fail
                go_quiet (fail)
                go_wp2_with fail
                go_loop [7, 8] (fun p j => HvRel m p j) (fun _ j => m - (intOf j).toNat)
                case atStart => exact ⟨0, 32768, by omega, rfl, rfl, rfl, by omega⟩
                case round =>
                  obtain ⟨r, y, hr, rfl, rfl, hy, hy2⟩ := hrel
                  have HY := Lib.hid hy
                  clear hy
                  by_cases hrl : r < m
                  · go_wp2
                    go_round
                    case rel => exact ⟨r + 1, y / 2, by omega, by go_num, by go_num, by rw [HY.out]; exact hv_step r m hrl hm, by omega⟩
                    case measure => simp [intOf]; omega
                  · obtain rfl : r = m := by omega
                    go_wp2
                    go_roundw
                    case rel => exact ⟨i + 1, x + y, by omega, by go_num, by go_num, by rw [HS.out, HY.out], hb8.drewN _, bq_drewN HB2.out _⟩
                    case measure => simp [intOf]; omega
              · have d2 : decide (m < n) = false := by simp; omega
                by_cases c3 : m = n
                · subst c3
                  by_cases c4 : i < k
                  · have d4 : decide (i < k) = true := by simp; omega
                    have HS : Hid (Hf.ah zs m k (i + 1) = x + B.P2 (15 - m)) := Lib.hid (by rw [hst, if_pos (by omega)]; rfl)
                    clear hst
                    go_wp2_with fail
                    go_quiet (fail)
                    go_wp2_with fail
                    go_loop [7, 8] (fun p j => HvRel m p j) (fun _ j => m - (intOf j).toNat)
                    case atStart => exact ⟨0, 32768, by omega, rfl, rfl, rfl, by omega⟩
                    case round =>
                      obtain ⟨r, y, hr, rfl, rfl, hy, hy2⟩ := hrel
                      have HY := Lib.hid hy
                      clear hy
                      by_cases hrl : r < m
                      · go_wp2
                        go_round
                        case rel => exact ⟨r + 1, y / 2, by omega, by go_num, by go_num, by rw [HY.out]; exact hv_step r m hrl hm, by omega⟩
                        case measure => simp [intOf]; omega
                      · obtain rfl : r = m := by omega
                        go_wp2
                        go_roundw
                        case rel => exact ⟨i + 1, x + y, by omega, by go_num, by go_num, by rw [HS.out, HY.out], hb8.drewN _, bq_drewN HB2.out _⟩
                        case measure => simp [intOf]; omega
                  · have d4 : decide (i < k) = false := by simp; omega
                    have HS : Hid (Hf.ah zs m k (i + 1) = x) := Lib.hid (by rw [hst, if_neg (by omega)]; rfl)
                    clear hst
                    go_wp2_with fail
                    go_quiet (fail)
                    go_wp2
                    go_roundw
                    case rel => exact ⟨i + 1, x, by omega, by go_num, rfl, HS.out.symm, hb8.drewN _, bq_drewN HB2.out _⟩
                    case measure => simp [intOf]; omega
                · have d3 : ((m : Int) == (n : Int)) = false := by rw [beq_eq_false_iff_ne]; omega
                  have d3n : (m == n) = false := by rw [beq_eq_false_iff_ne]; omega
                  have HS : Hid (Hf.ah zs n k (i + 1) = x) := Lib.hid (by rw [hst, if_neg (by omega)]; rfl)
                  clear hst
                  go_wp2_with fail
                  go_quiet (fail)
                  go_wp2
                  go_roundw
                  case rel => exact ⟨i + 1, x, by omega, by go_num, rfl, HS.out.symm, hb8.drewN _, bq_drewN HB2.out _⟩
                  case measure => simp [intOf]; omega
            · have d1 : decide (0 < (m : Int)) = false := by simp; omega
              have HS : Hid (Hf.ah zs n k (i + 1) = x) := Lib.hid (by rw [hst, if_neg (by omega)]; rfl)
              clear hst
              go_wp2_with fail
              go_quiet (fail)
              go_wp2
              go_roundw
              case rel => exact ⟨i + 1, x, by omega, by go_num, rfl, HS.out.symm, hb8.drewN _, bq_drewN HB2.out _⟩
              case measure => simp [intOf]; omega
          · obtain rfl : i = zs.length := by omega
            have hcd := Hf.ah_cd zs k hlt (by rw [← HZ.out]; omega) (by rw [← HZ.out]; omega)
            rw [← HZ.out, ← HX.out, Int.toNat_natCast] at hcd
            have HCD := Lib.hid hcd
            clear hcd HX
            go_wp2_with fail
            go_loop [5, 9] (fun s j => HsRel x n s j) (fun _ j => 15 - (intOf j).toNat)
            case atStart => exact ⟨n, x, by omega, by omega, rfl, rfl, by rw [Nat.sub_self, B.P2_zero, Nat.div_one], bx⟩
            case round =>
              obtain ⟨r, y, hr, hr2, rfl, rfl, hy, hy2⟩ := hrel
              have HY := Lib.hid hy
              clear hy
              by_cases hrl : r < 15
              · go_wp2
                go_round
                case rel => exact ⟨r + 1, y / 2, by omega, by omega, by go_num, by go_num, by rw [HY.out]; exact hs_step x r n hr, by omega⟩
                case measure => simp [intOf]; omega
              · obtain rfl : r = 15 := by omega
                have hcell8 := (hb8.cell k).trans (intA_at _ _ k hlt)
                have hf8 := hb8.frozen k
                have HS := Lib.hid (hb8.set k (.int .i64 (Hf.cd zs k : Int)))
                rw [cd_step, ← HCD.out, ← HY.out] at HS
                generalize upto (Hf.cd zs) k k = q at *
                clear hb8
                go_wp2
                go_roundw
                case rel => exact ⟨k + 1, by omega, by go_num, HS.out, bq_set HB2.out _ l8 _⟩
                case measure => simp [intOf]; omega
    · obtain rfl : k = zs.length := by omega
      rw [up_end] at hb8
      go_wp2
      go_ret
      exact ⟨b8, l8, hb8, rfl, HB.out⟩
end Go.Proofs.Ytgflnkkhcapkmaa
