import Derived.Test.YtmimndgjjafdmaaAd4
/- Layer 3: the walks of AdlerSums, AdlerGoes, AdlerJoins and AdlerParts. -/
namespace Go.Proofs.Ytmimndgjjafdmaa
open Go.RowKit
set_option linter.unusedVariables false

theorem mo_goes (a b : ByteArray) : moI (moI 1 a) b = moI 1 (a ++ b) := by
  unfold moI
  rw [A.more_more, ByteArray.data_append, Array.toList_append]
theorem jo_goes (a b : ByteArray) : joI (moI 1 a) (moI 1 b) (b.size : Int) = moI 1 (a ++ b) := by
  unfold joI moI
  rw [A.join_more _ _ _ (by rw [bytes_length]), ByteArray.data_append, Array.toList_append]
theorem jo_none (x n : Int) (s : ByteArray) (hn : n ≤ 0) : joI (moI x s) 1 n = moI x s := by
  unfold joI moI
  rw [show A.more x s.data.toList = A.whole (A.pa (A.lo x) s.data.toList) (A.pb (A.lo x) (A.hi x) s.data.toList) from rfl, A.join_none n (A.pa_lt _ _) (A.pb_lt _ _ _) hn]
theorem mo_parts (x : Int) (s : ByteArray) : moI x s = whI (A.pa (A.lo x) s.data.toList : Nat) (A.pb (A.lo x) (A.hi x) s.data.toList : Nat) := wh_nat _ _
theorem mo_lo (x : Int) (s : ByteArray) : bits .and .i64 (moI x s) 65535 = (A.pa (A.lo x) s.data.toList : Nat) := by
  have h1 := A.pa_lt (A.lo x) s.data.toList
  rw [and16, mo_parts]
  unfold whI
  omega
theorem mo_hi (x : Int) (s : ByteArray) : moI x s / 65536 = (A.pb (A.lo x) (A.hi x) s.data.toList : Nat) := by
  have h1 := A.pa_lt (A.lo x) s.data.toList
  rw [mo_parts]
  unfold whI
  omega
theorem beq_t {a b : Int} (h : a = b) : (a == b) = true := by rw [h]; simp

set_option maxHeartbeats 400000 in
theorem adlerSums_walk (s : ByteArray) (x : Int) (w : World) (hs : s.size ≤ maxLen) (h0 : -9223372036854775808 ≤ x) (h1 : x ≤ 9223372036854775807) :
    Calls Try.prog 3 #[.string s, .int .i64 x] w fun e w' => e = .returned (.bool true) ∧ Below w.heap.size w w' := by
  have hs2 := hs
  unfold maxLen at hs2
  by_cases h : 8192 < s.size
  · go_enter Try.func3, Try.ntmps3
    go_wp2_with fail
    refine (awake_any _).mono ?_
    rintro e w' ⟨rfl, rfl⟩
    go_wp2
    go_ret
    exact ⟨rfl, bq_refl _⟩
  · go_enter Try.func3, Try.ntmps3
    go_wp2_with fail
    refine (sum_any s _ hs).mono ?_
    rintro e w' ⟨rfl, rfl⟩
    go_wp2_with fail
    refine (refsum_any s _ (by omega)).mono ?_
    rintro e w' ⟨rfl, rfl⟩
    go_wp2_with fail
    refine (more_any x s _ h0 h1 hs).mono ?_
    rintro e w' ⟨rfl, rfl⟩
    go_wp2_with fail
    refine (refmore_any x s _ h0 h1 (by omega)).mono ?_
    rintro e w' ⟨rfl, rfl⟩
    go_wp2_with fail
    refine (awake_any _).mono ?_
    rintro e w' ⟨rfl, rfl⟩
    go_wp2
    go_ret
    exact ⟨rfl, bq_refl _⟩
theorem goes_out (a b : ByteArray) (w : World) (ha : a.size ≤ 9223372036854775807) (hb : b.size ≤ 9223372036854775807) (h : 8192 < a.size ∨ 8192 < b.size) :
    Calls Try.prog 4 #[.string a, .string b] w fun e w' => e = .returned (.bool true) ∧ Below w.heap.size w w' := by
  by_cases h1 : 8192 < a.size
  · clear h
    go_enter Try.func4, Try.ntmps4
    go_wp2_with fail
    refine (awake_any _).mono ?_
    rintro e w' ⟨rfl, rfl⟩
    go_wp2
    go_ret
    exact ⟨rfl, bq_refl _⟩
  · have h2 : 8192 < b.size := by omega
    clear h
    go_enter Try.func4, Try.ntmps4
    go_wp2_with fail
    refine (awake_any _).mono ?_
    rintro e w' ⟨rfl, rfl⟩
    go_wp2
    go_ret
    exact ⟨rfl, bq_refl _⟩
theorem app_size (a b : ByteArray) : (a ++ b).size = a.size + b.size := ByteArray.size_append
set_option maxHeartbeats 400000 in
theorem adlerGoes_walk (a b : ByteArray) (w : World) (ha : a.size ≤ maxLen) (hb : b.size ≤ maxLen) :
    Calls Try.prog 4 #[.string a, .string b] w fun e w' => e = .returned (.bool true) ∧ Below w.heap.size w w' := by
  have ha2 := ha
  have hb2 := hb
  unfold maxLen at ha2 hb2
  by_cases h : 8192 < a.size ∨ 8192 < b.size
  · exact goes_out a b w ha2 hb2 h
  · have h1 : ¬ 8192 < a.size := by omega
    have h2 : ¬ 8192 < b.size := by omega
    have h3 : Hid ((a ++ b).size ≤ maxLen) := Lib.hid (by rw [app_size]; unfold maxLen; omega)
    have HG := Lib.hid (mo_goes a b)
    have HM := Lib.hid (moI_bd 1 a)
    clear h
    go_enter Try.func4, Try.ntmps4
    go_wp2_with fail
    refine (sum_any a _ ha).mono ?_
    rintro e w' ⟨rfl, rfl⟩
    go_wp2_with fail
    refine (more_any _ b _ (by have := HM.out; omega) (by have := HM.out; omega) hb).mono ?_
    rintro e w' ⟨rfl, rfl⟩
    rw [HG.out]
    go_wp2_with fail
    refine (sum_any (a ++ b) _ h3.out).mono ?_
    rintro e w' ⟨rfl, rfl⟩
    go_wp2_with fail
    refine (awake_any _).mono ?_
    rintro e w' ⟨rfl, rfl⟩
    go_wp2
    go_ret
    exact ⟨rfl, bq_refl _⟩
theorem joins_out (a b : ByteArray) (w : World) (ha : a.size ≤ 9223372036854775807) (hb : b.size ≤ 9223372036854775807) (h : 8192 < a.size ∨ 8192 < b.size) :
    Calls Try.prog 5 #[.string a, .string b] w fun e w' => e = .returned (.bool true) ∧ Below w.heap.size w w' := by
  by_cases h1 : 8192 < a.size
  · clear h
    go_enter Try.func5, Try.ntmps5
    go_wp2_with fail
    refine (awake_any _).mono ?_
    rintro e w' ⟨rfl, rfl⟩
    go_wp2
    go_ret
    exact ⟨rfl, bq_refl _⟩
  · have h2 : 8192 < b.size := by omega
    clear h
    go_enter Try.func5, Try.ntmps5
    go_wp2_with fail
    refine (awake_any _).mono ?_
    rintro e w' ⟨rfl, rfl⟩
    go_wp2
    go_ret
    exact ⟨rfl, bq_refl _⟩
set_option maxHeartbeats 400000 in
theorem adlerJoins_walk (a b : ByteArray) (w : World) (ha : a.size ≤ maxLen) (hb : b.size ≤ maxLen) :
    Calls Try.prog 5 #[.string a, .string b] w fun e w' => e = .returned (.bool true) ∧ Below w.heap.size w w' := by
  have ha2 := ha
  have hb2 := hb
  unfold maxLen at ha2 hb2
  by_cases h : 8192 < a.size ∨ 8192 < b.size
  · exact joins_out a b w ha2 hb2 h
  · have h1 : ¬ 8192 < a.size := by omega
    have h2 : ¬ 8192 < b.size := by omega
    have h3 : Hid ((a ++ b).size ≤ maxLen) := Lib.hid (by rw [app_size]; unfold maxLen; omega)
    have HG := Lib.hid (jo_goes a b)
    have HM := Lib.hid (moI_bd 1 a)
    have HM2 := Lib.hid (moI_bd 1 b)
    clear h
    go_enter Try.func5, Try.ntmps5
    go_wp2_with fail
    refine (sum_any a _ ha).mono ?_
    rintro e w' ⟨rfl, rfl⟩
    go_wp2_with fail
    refine (sum_any b _ hb).mono ?_
    rintro e w' ⟨rfl, rfl⟩
    go_wp2_with fail
    refine (join_any _ _ _ _ (by have := HM.out; omega) (by have := HM.out; omega) (by have := HM2.out; omega) (by have := HM2.out; omega) (by omega) (by omega)).mono ?_
    rintro e w' ⟨rfl, rfl⟩
    rw [HG.out]
    go_wp2_with fail
    refine (sum_any (a ++ b) _ h3.out).mono ?_
    rintro e w' ⟨rfl, rfl⟩
    go_wp2_with fail
    refine (awake_any _).mono ?_
    rintro e w' ⟨rfl, rfl⟩
    go_wp2
    go_ret
    exact ⟨rfl, bq_refl _⟩
end Go.Proofs.Ytmimndgjjafdmaa
