import Derived.Test.YtoofjcpapidgdaaBih
import Derived.Test.YtoofjcpapidgdaaU2
import Derived.OpenShut
/- Layer 2: BitsWidths. -/
namespace Go.Proofs.Ytoofjcpapidgdaa
open Go.RowKit
set_option linter.unusedVariables false

def mP (zs : List Int) : Nat := zs.foldl (fun m v => if 0 < v then max m (wd v - 1) else m) 0
theorem mP_snoc (zs : List Int) (v : Int) : mP (zs ++ [v]) = if 0 < v then max (mP zs) (wd v - 1) else mP zs := by simp [mP]
theorem mP_take (zs : List Int) (k : Nat) (h : k < zs.length) : mP (zs.take (k + 1)) = if 0 < zs[k] then max (mP (zs.take k)) (wd zs[k] - 1) else mP (zs.take k) := by
  rw [List.take_succ_eq_append_getElem h, mP_snoc]
theorem bitLen_max (x y : Nat) (hx : x < 2 ^ 63) (hy : y < 2 ^ 63) : Lib.bitLen (max x y) = max (Lib.bitLen x) (Lib.bitLen y) := by
  have mono : ∀ a b : Nat, a ≤ b → b < 2 ^ 63 → Lib.bitLen a ≤ Lib.bitLen b := by
    intro a b hab hb
    have h64 : Lib.bitLen b ≤ 64 := Lib.bitLen_le b 64 (by omega) (by omega)
    rw [bitLen_iff a _ h64 (by omega)]
    have := (bitLen_iff b _ h64 (by omega)).1 (Nat.le_refl _)
    omega
  rcases Nat.le_total x y with h | h
  · rw [Nat.max_eq_right h, Nat.max_eq_right (mono x y h hy)]
  · rw [Nat.max_eq_left h, Nat.max_eq_left (mono y x h hx)]
theorem mxP_bd (zs : List Int) (hz : ∀ v ∈ zs, v ≤ 9223372036854775807) : ∀ k, 0 ≤ mxP (zs.take k) ∧ mxP (zs.take k) ≤ 9223372036854775807 := by
  intro k
  induction k with
  | zero => exact ⟨by simp [mxP], by simp [mxP]⟩
  | succ k ih =>
    by_cases h : k < zs.length
    · rw [mxP_take zs k h]
      have := hz zs[k] (List.getElem_mem h)
      omega
    · rw [List.take_of_length_le (by omega)]
      rw [List.take_of_length_le (by omega)] at ih
      exact ih
theorem mP_eq (zs : List Int) (hz : ∀ v ∈ zs, v ≤ 9223372036854775807) : ∀ k, mP (zs.take k) = Lib.bitLen (mxP (zs.take k)).toNat := by
  intro k
  induction k with
  | zero => rfl
  | succ k ih =>
    by_cases h : k < zs.length
    · have hb := mxP_bd zs hz k
      have hv := hz zs[k] (List.getElem_mem h)
      rw [mP_take zs k h, mxP_take zs k h, ih]
      generalize zs[k] = v at *
      generalize mxP (zs.take k) = x at *
      split
      · rename_i hp
        have e : (max x v).toNat = max x.toNat v.toNat := by omega
        rw [e, bitLen_max _ _ (by omega) (by omega)]
        congr 1
        unfold wd mag
        rw [if_neg (by omega), if_neg (by omega)]
        rfl
      · congr 2
        omega
    · rw [List.take_of_length_le (by omega)]
      rw [List.take_of_length_le (by omega)] at ih
      exact ih
theorem max_sub (y u : Nat) (h : 1 ≤ u) : (if (y : Int) < (u : Int) - 1 then (u : Int) - 1 else (y : Int)) = ((max y (u - 1) : Nat) : Int) := by rw [Nat.max_def]; split <;> split <;> omega
def BwRel (zs : List Int) (n m i : Value) : Prop := ∃ k x y : Nat, k ≤ zs.length ∧ i = .int .i64 k ∧ n = .int .i64 (x : Int) ∧ m = .int .i64 (y : Int) ∧ x = mxW (zs.take k) ∧ y = mP (zs.take k) ∧ x ≤ 64 ∧ y ≤ 64
set_option maxHeartbeats 1000000 in
theorem widths_few (zs : List Int) (a : Option Addr) (b o c : Nat) (w : World) (hl : zs.length ≤ 20) (ha : Hid (zs.length = 0 ∨ a = some ⟨b, o, none⟩)) (hz : Hid (∀ i (h : i < zs.length), -9223372036854775808 ≤ zs[i] ∧ zs[i] ≤ 9223372036854775807))
    (hc : Hid (∀ i (h : i < zs.length), w.cell? ⟨b, o + i, none⟩ = some (.int .i64 zs[i]))) :
    Calls Try.prog 6 #[.slice a zs.length c] w fun e w' => e = .returned (.bool true) ∧ Below w.heap.size w w' := by
  have p1 : decide (20 < (zs.length : Int)) = false := by simp; omega
  go_enter Try.func6, Try.ntmps6
  go_wp2
  go_loop [3, 4, 13] (fun n m i => BwRel zs n m i) (fun _ _ i => zs.length - (intOf i).toNat)
  case atStart => exact ⟨0, 0, 0, by omega, rfl, rfl, rfl, rfl, rfl, by omega, by omega⟩
  case round =>
    obtain ⟨k, x, y, hk, rfl, rfl, rfl, hx, hy, hx2, hy2⟩ := hrel
    have HX := Lib.hid hx
    have HY := Lib.hid hy
    clear hx hy
    by_cases hlt : k < zs.length
    · obtain rfl : a = some ⟨b, o, none⟩ := ha.out.resolve_left (by omega)
      have hcell := hc.out k hlt
      have hbd := hz.out k hlt
      have hstep := mxW_take zs k hlt
      have hstep2 := mP_take zs k hlt
      rw [← HX.out] at hstep
      rw [← HY.out] at hstep2
      generalize zs[k] = z at *
      have hw64 := wd_le z hbd.1 hbd.2
      have HW := Lib.hid (fun w => refwidth_any z w hbd.1 hbd.2)
      have hwp : 0 < z → 1 ≤ wd z := fun h => wd_pos z (by omega)
      generalize wd z = u at *
      have HS := Lib.hid hstep
      clear hstep
      by_cases hp : 0 < z
      · have hu1 := hwp hp
        rw [if_pos hp] at hstep2
        have HS2 := Lib.hid hstep2
        clear hstep2 hwp
        go_wp2_with (go_at_call 30; refine (HW.out _).mono ?_; rintro e w' ⟨rfl, rfl⟩)
        rw [max_nat, max_sub y u hu1]
        go_round
        case rel => exact ⟨k + 1, max x u, max y (u - 1), by omega, by go_num, rfl, rfl, HS.out.symm, HS2.out.symm, by omega, by omega⟩
        case measure => simp [intOf]; omega
      · rw [if_neg hp] at hstep2
        have HS2 := Lib.hid hstep2
        clear hstep2 hwp
        go_wp2_with (go_at_call 30; refine (HW.out _).mono ?_; rintro e w' ⟨rfl, rfl⟩)
        rw [max_nat]
        go_round
        case rel => exact ⟨k + 1, max x u, y, by omega, by go_num, rfl, rfl, HS.out.symm, HS2.out.symm, by omega, by omega⟩
        case measure => simp [intOf]; omega
    · obtain rfl : k = zs.length := by omega
      have hmem : ∀ v ∈ zs, v ≤ 9223372036854775807 := by
        intro v hv
        obtain ⟨i, hi, rfl⟩ := List.getElem_of_mem hv
        exact (hz.out i hi).2
      have HW := Lib.hid (width_list zs a b o c w (by omega) ha hz hc)
      have HP := Lib.hid (plainwidth_list zs a b o c w (by omega) ha hz hc)
      have e1 : mxW zs = x := by rw [HX.out, List.take_length]
      have e2 : Lib.bitLen (mxP zs).toNat = y := by rw [HY.out, mP_eq zs hmem, List.take_length]
      rw [e1] at HW
      rw [e2] at HP
      clear HX HY e1 e2 ha hz hc hmem
      go_wp2_with (first | (go_at_call 31; refine HW.out.mono ?_; rintro e w' ⟨rfl, rfl⟩) | (go_at_call 32; refine HP.out.mono ?_; rintro e w' ⟨rfl, rfl⟩) | (go_at_call 9; refine (awake_any _).mono ?_; rintro e w3 ⟨rfl, hb3⟩))
      go_ret
      exact ⟨rfl, by assumption⟩
theorem widths_many (n : Nat) (a : Option Addr) (c : Nat) (w : World) (hl : 20 < n) (hm : n ≤ 9223372036854775807) :
    Calls Try.prog 6 #[.slice a n c] w fun e w' => e = .returned (.bool true) ∧ Below w.heap.size w w' := by
  have p1 : decide (20 < (n : Int)) = true := by simp; omega
  go_enter Try.func6, Try.ntmps6
  go_wp2_with (go_at_call 9; refine (awake_any _).mono ?_; rintro e w3 ⟨rfl, hb3⟩)
  go_ret
  exact ⟨rfl, by assumption⟩
theorem widths_nil (w : World) : Calls Try.prog 6 #[.slice none 0 0] w fun e w' => e = .returned (.bool true) ∧ Below w.heap.size w w' :=
  widths_few [] none 0 0 0 w (by simp) (Lib.hid (Or.inl rfl)) (Lib.hid (fun i h => by simp at h)) (Lib.hid (fun i h => by simp at h))
theorem widths_cells (zs : List Int) (a : Addr) (len cap : Nat) (w : World) (hl : len ≤ cap) (hm : cap ≤ maxLen) (hz : zs.length = cap) (hc : ∀ i, i < zs.length → w.cell? (a.add i) = some (.int .i64 (zs.getD i 0))) (hw : ∀ n ∈ zs, (Lit.int .i64 n).wf = true) :
    Calls Try.prog 6 #[.slice (some a) len cap] w fun e w' => e = .returned (.bool true) ∧ Below w.heap.size w w' := by
  have hm2 : cap ≤ 9223372036854775807 := hm
  by_cases h20 : 20 < len
  · exact widths_many len (some a) cap w h20 (by omega)
  · have hlt : (zs.take len).length = len := by rw [List.length_take]; omega
    by_cases h0 : len = 0
    · subst h0
      exact widths_few [] (some a) 0 0 cap w (by simp) (Lib.hid (Or.inl rfl)) (Lib.hid (fun i h => by simp at h)) (Lib.hid (fun i h => by simp at h))
    · obtain ⟨b, o, rfl, hc2⟩ := ints_at hc (by omega)
      have h := widths_few (zs.take len) (some ⟨b, o, none⟩) b o cap w (by omega) (Lib.hid (Or.inr rfl)) (Lib.hid (fun i h => by
        rw [List.getElem_take]
        exact bd64 (hw _ (List.getElem_mem _)))) (Lib.hid (fun i h => by
        rw [hlt] at h
        rw [hc2 i (by omega), List.getElem_take, List.getD_eq_getElem?_getD, List.getElem?_eq_getElem (by omega)]
        rfl))
      rw [hlt] at h
      exact h
end Go.Proofs.Ytoofjcpapidgdaa
