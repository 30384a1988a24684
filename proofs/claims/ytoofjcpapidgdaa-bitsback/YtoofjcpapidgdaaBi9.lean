import Derived.Test.YtoofjcpapidgdaaBi8
/- Layer 2: the greatest width of any numbers. -/
namespace Go.Proofs.Ytoofjcpapidgdaa
open Go.RowKit
set_option linter.unusedVariables false

def mxW (zs : List Int) : Nat := zs.foldl (fun m v => max m (wd v)) 0
def mxP (zs : List Int) : Int := zs.foldl (fun m v => max m v) 0
theorem mxW_snoc (zs : List Int) (v : Int) : mxW (zs ++ [v]) = max (mxW zs) (wd v) := by simp [mxW]
theorem mxP_snoc (zs : List Int) (v : Int) : mxP (zs ++ [v]) = max (mxP zs) v := by simp [mxP]
theorem mxW_take (zs : List Int) (k : Nat) (h : k < zs.length) : mxW (zs.take (k + 1)) = max (mxW (zs.take k)) (wd zs[k]) := by
  rw [List.take_succ_eq_append_getElem h, mxW_snoc]
theorem mxP_take (zs : List Int) (k : Nat) (h : k < zs.length) : mxP (zs.take (k + 1)) = max (mxP (zs.take k)) zs[k] := by
  rw [List.take_succ_eq_append_getElem h, mxP_snoc]
def MxRel (zs : List Int) (m i : Value) : Prop := ∃ k x : Nat, k ≤ zs.length ∧ i = .int .i64 k ∧ m = .int .i64 (x : Int) ∧ x = mxW (zs.take k) ∧ x ≤ 64
def MpRel (zs : List Int) (m i : Value) : Prop := ∃ k : Nat, ∃ x : Int, k ≤ zs.length ∧ i = .int .i64 k ∧ m = .int .i64 x ∧ x = mxP (zs.take k) ∧ 0 ≤ x ∧ x ≤ 9223372036854775807
theorem max_nat (x y : Nat) : (if x < y then (y : Int) else (x : Int)) = ((max x y : Nat) : Int) := by rw [Nat.max_def]; split <;> split <;> omega
theorem max_int (x y : Int) : (if x < y then y else x) = max x y := by rw [Int.max_def]; split <;> split <;> omega
set_option maxHeartbeats 1000000 in
theorem width_list (zs : List Int) (a : Option Addr) (b o c : Nat) (w : World) (hl : zs.length ≤ 1000000) (ha : Hid (zs.length = 0 ∨ a = some ⟨b, o, none⟩)) (hz : Hid (∀ i (h : i < zs.length), -9223372036854775808 ≤ zs[i] ∧ zs[i] ≤ 9223372036854775807))
    (hc : Hid (∀ i (h : i < zs.length), w.cell? ⟨b, o + i, none⟩ = some (.int .i64 zs[i]))) :
    Calls Try.prog 31 #[.slice a zs.length c] w fun e w' => e = .returned (.int .i64 (mxW zs : Int)) ∧ w = w' := by
  go_enter Try.func31, Try.ntmps31
  go_wp2
  go_loop [3, 8] (fun m i => MxRel zs m i) (fun _ i => zs.length - (intOf i).toNat)
  case atStart => exact ⟨0, 0, by omega, rfl, rfl, rfl, by omega⟩
  case round =>
    obtain ⟨k, x, hk, rfl, rfl, hx, hx2⟩ := hrel
    have HX := Lib.hid hx
    clear hx
    by_cases hlt : k < zs.length
    · obtain rfl : a = some ⟨b, o, none⟩ := ha.out.resolve_left (by omega)
      have hcell := hc.out k hlt
      have hbd := hz.out k hlt
      have hstep := mxW_take zs k hlt
      rw [← HX.out] at hstep
      generalize zs[k] = z at *
      have hw64 := wd_le z hbd.1 hbd.2
      have HW := Lib.hid (fun w => width_any z w hbd.1 hbd.2)
      generalize wd z = y at *
      have HS := Lib.hid hstep
      clear hstep
      go_wp2_with (go_at_call 41; refine (HW.out _).mono ?_; rintro e w' ⟨rfl, rfl⟩)
      rw [max_nat]
      go_round
      case rel => exact ⟨k + 1, max x y, by omega, by go_num, rfl, HS.out.symm, by omega⟩
      case measure => simp [intOf]; omega
    · obtain rfl : k = zs.length := by omega
      have HL : Hid (mxW zs = x) := Lib.hid (by rw [HX.out, List.take_length])
      go_wp2
      go_ret
      exact ⟨ret_int (by rw [HL.out]), rfl⟩
set_option maxHeartbeats 1000000 in
theorem plainwidth_list (zs : List Int) (a : Option Addr) (b o c : Nat) (w : World) (hl : zs.length ≤ 1000000) (ha : Hid (zs.length = 0 ∨ a = some ⟨b, o, none⟩)) (hz : Hid (∀ i (h : i < zs.length), -9223372036854775808 ≤ zs[i] ∧ zs[i] ≤ 9223372036854775807))
    (hc : Hid (∀ i (h : i < zs.length), w.cell? ⟨b, o + i, none⟩ = some (.int .i64 zs[i]))) :
    Calls Try.prog 32 #[.slice a zs.length c] w fun e w' => e = .returned (.int .i64 (Lib.bitLen (mxP zs).toNat : Int)) ∧ w = w' := by
  go_enter Try.func32, Try.ntmps32
  go_wp2
  go_loop [3, 8] (fun m i => MpRel zs m i) (fun _ i => zs.length - (intOf i).toNat)
  case atStart => exact ⟨0, 0, by omega, rfl, rfl, rfl, by omega, by omega⟩
  case round =>
    obtain ⟨k, x, hk, rfl, rfl, hx, hx2, hx3⟩ := hrel
    have HX := Lib.hid hx
    clear hx
    by_cases hlt : k < zs.length
    · obtain rfl : a = some ⟨b, o, none⟩ := ha.out.resolve_left (by omega)
      have hcell := hc.out k hlt
      have hbd := hz.out k hlt
      have hstep := mxP_take zs k hlt
      rw [← HX.out] at hstep
      generalize zs[k] = z at *
      have HS := Lib.hid hstep
      clear hstep
      go_wp2
      rw [max_int]
      go_round
      case rel => exact ⟨k + 1, max x z, by omega, by go_num, rfl, HS.out.symm, by omega, by omega⟩
      case measure => simp [intOf]; omega
    · obtain rfl : k = zs.length := by omega
      have HL : Hid (mxP zs = x) := Lib.hid (by rw [HX.out, List.take_length])
      have HW := Lib.hid (fun w => len64_any x w hx2 (by omega))
      go_wp2_with (go_at_call 43; refine (HW.out _).mono ?_; rintro e w' ⟨rfl, rfl⟩)
      go_ret
      exact ⟨ret_int (by rw [HL.out]), rfl⟩
end Go.Proofs.Ytoofjcpapidgdaa
