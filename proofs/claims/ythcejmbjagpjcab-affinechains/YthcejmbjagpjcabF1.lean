import Derived.Test.YthcejmbjagpjcabFl
/- Layer 7: whether numbers, rectangles, matrices, changes and colours are right. -/
namespace Go.Proofs.Ythcejmbjagpjcab
open Go.RowKit
set_option linter.unusedVariables false

def nr (m v : Int) : Bool := decide (-m ≤ v) && decide (v ≤ m)
theorem nr_iff (m v : Int) : nr m v = true ↔ -m ≤ v ∧ v ≤ m := by simp [nr]
theorem all_take (f : Int → Bool) (zs : List Int) (k : Nat) (h : k < zs.length) (h1 : (zs.take k).all f = true) (h2 : f zs[k] = true) : (zs.take (k + 1)).all f = true := by
  rw [List.take_succ_eq_append_getElem h, List.all_append, h1]
  simp [h2]
theorem all_not (f : Int → Bool) (zs : List Int) (k : Nat) (h : k < zs.length) (h2 : f zs[k] = false) : zs.all f = false := by
  rw [List.all_eq_false]
  exact ⟨zs[k], List.getElem_mem h, by rw [h2]; simp⟩
def NrRel (zs : List Int) (m : Int) (i : Value) : Prop := ∃ k : Nat, k ≤ zs.length ∧ i = .int .i64 k ∧ (zs.take k).all (nr m) = true
set_option maxHeartbeats 1000000 in
theorem near_list (zs : List Int) (m : Int) (a : Option Addr) (b o c : Nat) (w : World) (hl : zs.length ≤ 1000000) (m0 : 0 ≤ m) (m1 : m ≤ 1000000000) (ha : Hid (Ints w zs a b o)) :
    Calls Try.prog 16 #[.int .i64 m, .slice a zs.length c] w fun e w' => e = .returned (.bool (zs.all (nr m))) ∧ w = w' := by
  go_enter Try.func16, Try.ntmps16
  go_wp2
  go_loop [9] (fun i => NrRel zs m i) (fun i => zs.length - (intOf i).toNat)
  case atStart => exact ⟨0, by omega, rfl, rfl⟩
  case round =>
    obtain ⟨k, hk, rfl, hx⟩ := hrel
    have HX := Lib.hid hx
    clear hx
    by_cases hlt : k < zs.length
    · obtain ⟨rfl, z0, z1, hcell⟩ := ha.out.at (bq_refl w) k hlt
      have HY := Lib.hid (all_take (nr m) zs k hlt HX.out)
      have HN := Lib.hid (all_not (nr m) zs k hlt)
      generalize zs[k] = z at *
      by_cases c1 : z < -m
      · have HF : Hid (zs.all (nr m) = false) := Lib.hid (HN.out (by simp [nr]; omega))
        clear HX HY HN
        go_wp2
        go_ret
        exact ⟨ret_bool HF.out.symm, rfl⟩
      · by_cases c2 : m < z
        · have HF : Hid (zs.all (nr m) = false) := Lib.hid (HN.out (by simp [nr]; omega))
          clear HX HY HN
          go_wp2
          go_ret
          exact ⟨ret_bool HF.out.symm, rfl⟩
        · have HF : Hid ((zs.take (k + 1)).all (nr m) = true) := Lib.hid (HY.out (by simp [nr]; omega))
          clear HX HY HN
          go_wp2
          go_round
          case rel => exact ⟨k + 1, by omega, by go_num, HF.out⟩
          case measure => simp [intOf]; omega
    · obtain rfl : k = zs.length := by omega
      have HL : Hid (zs.all (nr m) = true) := Lib.hid (by rw [← HX.out, List.take_length])
      go_wp2
      go_ret
      exact ⟨ret_bool HL.out.symm, rfl⟩
end Go.Proofs.Ythcejmbjagpjcab
