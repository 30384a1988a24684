import Derived.Test.YtcfidibkihkndaaR1
namespace Go.Proofs.Ytcfidibkihkndaa
open Go.RowKit
set_option linter.unusedVariables false

theorem ret_nb {a a' : Int} {c c' : Bool} (h : a = a') (k : c = c') : Ending.returned (.tuple #[.int .i64 a, .bool c]) = .returned (.tuple #[.int .i64 a', .bool c']) := by rw [h, k]

set_option maxHeartbeats 2000000 in
theorem number_any (w : World) (g c : Nat) (l : List Nat) (m : Bool) (h : Row w g l) (hd : M5.Dig l) (hl : l.length ≤ 100) (hc : l.length ≤ c) :
    Calls Try.prog 28 #[.slice (some ⟨g, 0, none⟩) l.length c, .bool m] w fun e w' => e = .returned (.tuple #[.int .i64 (M5.num (M5.sgn m (M5.val l))), .bool (M5.fit (M5.sgn m (M5.val l)))]) ∧ w = w' := by
  obtain ⟨n, hn⟩ : ∃ n, n = l.length := ⟨_, rfl⟩
  rw [← hn] at hl hc ⊢
  have HN := Lib.hid (And.intro hn hd)
  have H := Lib.hid h
  clear h hn hd
  go_enter Try.func28, Try.ntmps28
  go_wp2
  go_loop [6, 7] (fun s i => ∃ (k : Nat) (z : Int), k ≤ n ∧ i = .int .i64 ((k : Int) - 1) ∧ s = .int .i64 z ∧ z ≤ 0 ∧ -9223372036854775808 ≤ z ∧ Hid (z = -(M5.val (l.drop k) : Int))) (fun _ i => (intOf i + 1).toNat)
  case atStart => exact ⟨n, 0, by omega, rfl, rfl, by omega, by omega, Lib.hid (by rw [List.drop_of_length_le (by have := HN.out.1; omega)]; rfl)⟩
  case round =>
    obtain ⟨k, z, hk, rfl, rfl, hz0, hz1, hz⟩ := hrel
    rcases k with _ | k
    · have hz' : z = -(M5.val l : Int) := by simpa using hz.out
      cases m
      · by_cases q : z = -9223372036854775808
        · have q1 : (z == -9223372036854775808) = true := by simpa using q
          have f : M5.fit (M5.sgn false (M5.val l)) = false := by simp [M5.fit, M5.sgn]; omega
          have F := Lib.hid (And.intro (show M5.num (M5.sgn false (M5.val l)) = 0 by unfold M5.num; rw [f]; rfl) f)
          clear f q hz' hz
          go_wp2
          go_ret2
          exact ⟨ret_nb F.out.1.symm F.out.2.symm, rfl⟩
        · have q1 : (z == -9223372036854775808) = false := by simpa using q
          have f : M5.fit (M5.sgn false (M5.val l)) = true := by simp [M5.fit, M5.sgn]; omega
          have F := Lib.hid (And.intro (show M5.num (M5.sgn false (M5.val l)) = -z by unfold M5.num; rw [f, if_pos rfl]; simp [M5.sgn]; omega) f)
          have q2 : -9223372036854775808 < z := by omega
          clear f q hz' hz
          go_wp2
          go_ret2
          exact ⟨ret_nb F.out.1.symm F.out.2.symm, rfl⟩
      · have f : M5.fit (M5.sgn true (M5.val l)) = true := by simp [M5.fit, M5.sgn]; omega
        have F := Lib.hid (And.intro (show M5.num (M5.sgn true (M5.val l)) = z by unfold M5.num; rw [f, if_pos rfl]; simp [M5.sgn]; omega) f)
        clear f hz' hz
        go_wp2
        go_ret2
        exact ⟨ret_nb F.out.1.symm F.out.2.symm, rfl⟩
    · obtain ⟨e1, dl⟩ := HN.out
      have c1 := H.out.cell (i := k) (by omega)
      have vd := M5.val_drop l k (by omega)
      have vh := M5.val_high l k (by omega)
      have vl := M5.val_drop_le l k
      have dx := M5.dig_at dl k
      have ek : ((k + 1 : Nat) : Int) - 1 = (k : Int) := by omega
      rw [ek]
      have hz' := hz.out
      generalize hx : M5.dg l k = x at *
      generalize hV : M5.val (l.drop (k + 1)) = V at *
      clear e1 dl ek hz hx hV
      by_cases q1 : 3 < k ∧ x ≠ 0
      · have hb := vh (by omega) q1.2
        have F := Lib.hid (And.intro (M5.num_big m (M5.val l) (by omega)) (M5.fit_big m (M5.val l) (by omega)))
        have b1 : 3 < k := q1.1
        have b2 : ((x : Int) != 0) = true := by simpa using q1.2
        clear q1 vd vh vl hz' hb
        go_wp2
        go_ret2
        exact ⟨ret_nb F.out.1.symm F.out.2.symm, rfl⟩
      · have key : (k ≤ 3) ∨ (3 < k ∧ ((x : Int) != 0) = false) := by
          rcases Nat.lt_or_ge 3 k with h | h
          · exact .inr ⟨h, by have : x = 0 := by omega
                              simp [this]⟩
          · exact .inl h
        clear q1 vh
        by_cases q2 : z < -140737488355328
        · have F := Lib.hid (And.intro (M5.num_big m (M5.val l) (by omega)) (M5.fit_big m (M5.val l) (by omega)))
          clear vd vl hz'
          rcases key with key | ⟨k1, k2⟩
          all_goals
            go_wp2
            go_ret2
            exact ⟨ret_nb F.out.1.symm F.out.2.symm, rfl⟩
        · by_cases q3 : z = -140737488355328 ∧ x ≠ 0
          · have F := Lib.hid (And.intro (M5.num_big m (M5.val l) (by omega)) (M5.fit_big m (M5.val l) (by omega)))
            have b1 : (z == -140737488355328) = true := by simpa using q3.1
            have b2 : ((x : Int) != 0) = true := by simpa using q3.2
            have q2' : -140737488355328 ≤ z := by omega
            clear vd vl hz' q3 q2
            rcases key with key | ⟨k1, k2⟩
            · go_wp2
              go_ret2
              exact ⟨ret_nb F.out.1.symm F.out.2.symm, rfl⟩
            · rw [k2] at b2; cases b2
          · have key3 : (z == -140737488355328) = false ∧ -140737488355328 < z ∨ (z == -140737488355328) = true ∧ z ≤ -140737488355328 ∧ ((x : Int) != 0) = false ∧ x ≤ 0 := by
              rcases Int.lt_or_le (-140737488355328) z with h | h
              · exact .inl ⟨by rw [beq_eq_false_iff_ne]; omega, h⟩
              · have : x = 0 := by omega
                exact .inr ⟨by rw [beq_iff_eq]; omega, h, by simp [this], by omega⟩
            have R := Lib.hid (show 65536 * z - (x : Int) = -(M5.val (l.drop k) : Int) by omega)
            have q2' : -140737488355328 ≤ z := by omega
            clear vd vl hz' q3 q2
            rcases key with key | ⟨k1, k2⟩
            · rcases key3 with ⟨k3, k4⟩ | ⟨k3, k4, k5, k6⟩
              all_goals
                go_wp2
                go_round
                case rel => exact ⟨k, _, by omega, by go_num, rfl, by omega, by omega, R⟩
                case measure => simp [intOf]
            · rcases key3 with ⟨k3, k4⟩ | ⟨k3, k4, k5, k6⟩
              all_goals
                go_wp2
                go_round
                case rel => exact ⟨k, _, by omega, by go_num, rfl, by omega, by omega, R⟩
                case measure => simp [intOf]

end Go.Proofs.Ytcfidibkihkndaa
