import Derived.Test.YtcfidibkihkndaaB2
namespace Go.Proofs.Ytcfidibkihkndaa
open Go.RowKit
set_option linter.unusedVariables false

theorem bitLen_pos (x : Nat) (h0 : 0 < x) (h : x < 2 ^ 64) : 1 ≤ Lib.bitLen x := by
  rw [Lib.bitLen_half x (by omega) h]; omega
theorem bitLen_up (x : Nat) (h : x < 2 ^ 64) : x < 2 ^ Lib.bitLen x := by
  rcases Nat.lt_or_ge x (2 ^ Lib.bitLen x) with h1 | h1
  · exact h1
  · have h2 := Lib.bitLen_shift (Lib.bitLen x) x h1 h
    have h3 : 0 < x / 2 ^ Lib.bitLen x := Nat.div_pos h1 (Nat.two_pow_pos _)
    have h4 := bitLen_pos (x / 2 ^ Lib.bitLen x) h3 (Nat.lt_of_le_of_lt (Nat.div_le_self _ _) h)
    omega
theorem bitLen_down (x : Nat) (h0 : 0 < x) (h : x < 2 ^ 64) : 2 ^ (Lib.bitLen x - 1) ≤ x := by
  rcases Nat.lt_or_ge x (2 ^ (Lib.bitLen x - 1)) with h1 | h1
  · have h2 := Lib.bitLen_le x 64 (by omega) h
    have h3 := Lib.bitLen_le x (Lib.bitLen x - 1) (by omega) h1
    have h4 := bitLen_pos x h0 h
    omega
  · exact h1

/-- by how much the divisor is shifted -/
theorem shift_facts (y s : Nat) (h0 : 0 < y) (h1 : y < 2 ^ 64) (hs : s = 64 - Lib.bitLen y) : s < 64 ∧ 2 ^ 63 ≤ y * 2 ^ s ∧ y * 2 ^ s < 2 ^ 64 := by
  have p := bitLen_pos y h0 h1
  have u := bitLen_up y h1
  have d := bitLen_down y h0 h1
  have l := Lib.bitLen_le y 64 (by omega) h1
  refine ⟨by omega, ?_, ?_⟩
  · have := Nat.mul_le_mul d (Nat.le_refl (2 ^ s))
    rw [← Nat.pow_add, show Lib.bitLen y - 1 + s = 63 by omega] at this
    exact this
  · have := (Nat.mul_lt_mul_right (Nat.two_pow_pos s)).2 u
    rw [← Nat.pow_add, show Lib.bitLen y + s = 64 by omega] at this
    exact this

theorem or_words (h l s : Nat) (hs : s < 64) (l1 : l < 18446744073709551616) (hh : h * 2 ^ s < 18446744073709551616) :
    bits .or .u64 (IntKind.u64.wrap ((h : Int) * 2 ^ s)) ((l : Int) / 2 ^ (64 - s)) = ((h * 2 ^ s + l / 2 ^ (64 - s) : Nat) : Int) := by
  have e1 : (h : Int) * 2 ^ s = ((h * 2 ^ s : Nat) : Int) := by push_cast; rfl
  have e2 : (l : Int) / 2 ^ (64 - s) = ((l / 2 ^ (64 - s) : Nat) : Int) := by push_cast; rfl
  have hl : l / 2 ^ (64 - s) < 2 ^ s := by
    rw [Nat.div_lt_iff_lt_mul (Nat.two_pow_pos _), ← Nat.pow_add, show s + (64 - s) = 64 by omega]
    exact l1
  have hl2 : l / 2 ^ (64 - s) ≤ l := Nat.div_le_self _ _
  rw [e1, e2, Words.inN _ hh, bits_or_u64_nat _ _ hh (by omega)]
  congr 1
  rw [Nat.mul_comm h, ← Nat.two_pow_add_eq_or_of_lt hl]

theorem wrap_rem (U c P R : Nat) (e : U * 4294967296 + c = P + R) (hR : R < 18446744073709551616) :
    IntKind.u64.wrap (IntKind.u64.wrap (IntKind.u64.wrap ((U : Int) * 4294967296) + (c : Int)) - IntKind.u64.wrap (P : Int)) = (R : Int) := by
  simp only [IntKind.wrap_u64]
  omega

theorem wrap_start (U a : Nat) (ha : 0 < a) (hU : U < 18446744073709551616) :
    IntKind.u64.wrap ((U : Int) / (a : Int)) = ((U / a : Nat) : Int) ∧ IntKind.u64.wrap ((U : Int) - IntKind.u64.wrap (((U / a : Nat) : Int) * (a : Int))) = ((U % a : Nat) : Int) := by
  have e := Nat.div_add_mod' U a
  have l : U / a ≤ U := Nat.div_le_self _ _
  refine ⟨?_, ?_⟩
  · rw [← Int.natCast_ediv, Words.inN _ (by omega)]
  · rw [Words.mulN]
    generalize U / a * a = p at *
    simp only [IntKind.wrap_u64]
    omega

theorem shl_words (l s : Nat) (hs : s < 64) : l * 2 ^ s = l / 2 ^ (64 - s) * 18446744073709551616 + l * 2 ^ s % 18446744073709551616 := by
  have e : l * 2 ^ s / 18446744073709551616 = l / 2 ^ (64 - s) := by
    have h64 : 18446744073709551616 = 2 ^ (64 - s) * 2 ^ s := by rw [← Nat.pow_add, show 64 - s + s = 64 by omega]
    rw [h64, Nat.mul_div_mul_right _ _ (Nat.two_pow_pos s)]
  rw [← e]
  exact (Nat.div_add_mod' _ _).symm

theorem cast_word (A B : Nat) : (A : Int) * 4294967296 + (B : Int) = ((A * 4294967296 + B : Nat) : Int) := by omega

set_option maxRecDepth 10000 in
theorem div64_big (h l y : Nat) (w : World) (h0 : 0 < h) (hy : h < y) (y1 : y < 18446744073709551616) (l1 : l < 18446744073709551616) :
    Calls Try.prog 35 #[.int .u64 h, .int .u64 l, .int .u64 y] w fun e w' => e = .returned (.tuple #[.int .u64 (((h * 18446744073709551616 + l) / y : Nat) : Int), .int .u64 (((h * 18446744073709551616 + l) % y : Nat) : Int)]) ∧ w = w' := by
  obtain ⟨s, hs⟩ : ∃ s, s = 64 - Lib.bitLen y := ⟨_, rfl⟩
  have ⟨s1, s2, s3⟩ := shift_facts y s (by omega) y1 hs
  have hL := Lib.bitLen_le y 64 (by omega) y1
  have C := zeros64_any (y : Int) w (by omega) (by omega)
  rw [Int.toNat_natCast, show (64 - (Lib.bitLen y : Int)) = (s : Int) by omega] at C
  obtain ⟨Y, hY⟩ : ∃ Y, Y = y * 2 ^ s := ⟨_, rfl⟩
  rw [← hY] at s2 s3
  have hh : h * 2 ^ s + 2 ^ s ≤ Y := by
    rw [hY]
    have := Nat.mul_le_mul (show h + 1 ≤ y from hy) (Nat.le_refl (2 ^ s))
    rw [Nat.add_mul] at this
    omega
  have hp := Nat.two_pow_pos s
  have hlt : l / 2 ^ (64 - s) < 2 ^ s := by
    rw [Nat.div_lt_iff_lt_mul (Nat.two_pow_pos _), ← Nat.pow_add, show s + (64 - s) = 64 by omega]
    exact l1
  have hsh := shl_words l s s1
  obtain ⟨U, hU⟩ : ∃ U, U = h * 2 ^ s + l / 2 ^ (64 - s) := ⟨_, rfl⟩
  obtain ⟨V, hV⟩ : ∃ V, V = l * 2 ^ s % 18446744073709551616 := ⟨_, rfl⟩
  have hV1 : V < 18446744073709551616 := by rw [hV]; exact Nat.mod_lt _ (by omega)
  have hN : (h * 18446744073709551616 + l) * 2 ^ s = U * 18446744073709551616 + (V / 4294967296 * 4294967296 + V % 4294967296) := by
    rw [Nat.div_add_mod', Nat.add_mul, hsh, ← hV, hU, Nat.add_mul, Nat.mul_right_comm]
    omega
  have D : M4.Digit U (V / 4294967296) Y (Y / 4294967296) (Y % 4294967296) := ⟨(Nat.div_add_mod' _ _).symm, by omega, by omega, by omega, by omega, by omega⟩
  have ⟨b1, b2⟩ := M4.both D (show V % 4294967296 < 4294967296 by omega)
  have r1 := M4.rem_lt D
  have p1 := M4.parts U (V / 4294967296) Y
  have q1 := M4.small D
  have st1 := M4.start D
  obtain ⟨R, hR⟩ : ∃ R, R = M4.rem U (V / 4294967296) Y := ⟨_, rfl⟩
  rw [← hR] at b1 b2 r1 p1
  have D2 : M4.Digit R (V % 4294967296) Y (Y / 4294967296) (Y % 4294967296) := ⟨D.hY, D.hb, D.ha, D.ha1, r1, by omega⟩
  have r2 := M4.rem_lt D2
  have p2 := M4.parts R (V % 4294967296) Y
  have q2 := M4.small D2
  have st2 := M4.start D2
  rw [← hN] at b1 b2
  have ⟨f1, f2⟩ := M4.shifted (h * 18446744073709551616 + l) y s
  rw [← hY] at f1 f2
  rw [b2] at f2
  rw [b1] at f1
  rw [← f1, ← f2]
  have e0 : ((y : Int) * 2 ^ s) = (Y : Int) := by rw [hY]; push_cast; rfl
  have e0' : ((l : Int) * 2 ^ s) = ((l * 2 ^ s : Nat) : Int) := by push_cast; rfl
  have w1 := wrap_start U (Y / 4294967296) (by omega) (by omega)
  have w2 := wrap_start R (Y / 4294967296) (by omega) (by omega)
  refine div64_core h l y s Y (Y / 4294967296) (Y % 4294967296) U V (V / 4294967296) (V % 4294967296) w h0 hy y1 l1 s1 ?_ ?_ ?_ ?_ ?_ ?_ ?_ ?_ ?_ ?_ ?_ ?_ ?_ ?_ _ _ _ R w1.1 w1.2 (Lib.hid ?_) (Lib.hid D) (Lib.hid rfl) q1 ?_ ?_
    _ _ _ _ _ w2.1 w2.2 (Lib.hid ?_) (Lib.hid D2) (Lib.hid rfl) q2 (Lib.hid ?_) ?_ (Lib.hid C)
  · rw [e0]; exact Words.inN _ (by omega)
  · omega
  · exact Words.maskN _ (by omega)
  · omega
  · omega
  · omega
  · rw [or_words h l s s1 l1 (by omega), hU]
  · rw [e0', Words.modN, hV]
  · omega
  · exact Words.maskN _ (by omega)
  · omega
  · omega
  · omega
  · omega
  · exact ⟨st1.2.1, by omega, st1.1, st1.2.2.2⟩
  · rw [Words.mulN]; exact wrap_rem _ _ _ _ p1 (by omega)
  · omega
  · exact ⟨st2.2.1, by omega, st2.1, st2.2.2.2⟩
  · exact cast_word _ _
  · rw [Words.mulN, wrap_rem _ _ _ _ p2 (by omega)]; push_cast; rfl

theorem ret_u2 {a g g' : Int} (h : g = g') : Ending.returned (.tuple #[.int .u64 a, .int .u64 g]) = .returned (.tuple #[.int .u64 a, .int .u64 g']) := by rw [h]

theorem div64_small (l y : Nat) (w : World) (hy : 0 < y) (y1 : y < 18446744073709551616) (l1 : l < 18446744073709551616) (q r : Nat)
    (e1 : IntKind.u64.wrap ((l : Int) / (y : Int)) = (q : Int)) (e2 : (l : Int) % (y : Int) = (r : Int)) :
    Calls Try.prog 35 #[.int .u64 0, .int .u64 l, .int .u64 y] w fun e w' => e = .returned (.tuple #[.int .u64 (q : Int), .int .u64 (r : Int)]) ∧ ∃ n, w' = w.drewN n := by
  have k1 : ((y : Int) == 0) = false := by rw [beq_eq_false_iff_ne]; omega
  have k2 : decide ((y : Int) ≤ 0) = false := by simp; omega
  go_enter Try.func35, Try.ntmps35
  go_wp2
  go_quiet (fail)
  go_wp2
  go_ret2
  exact ⟨ret_u2 e2, _, rfl⟩

theorem div64_any (h l y : Nat) (w : World) (hy : h < y) (y1 : y < 18446744073709551616) (l1 : l < 18446744073709551616) :
    Calls Try.prog 35 #[.int .u64 h, .int .u64 l, .int .u64 y] w fun e w' => e = .returned (.tuple #[.int .u64 (((h * 18446744073709551616 + l) / y : Nat) : Int), .int .u64 (((h * 18446744073709551616 + l) % y : Nat) : Int)]) ∧ ∃ n, w' = w.drewN n := by
  rcases Nat.eq_zero_or_pos h with h0 | h0
  · subst h0
    have e := div64_small l y w hy y1 l1 (l / y) (l % y) (wrap_start l y hy l1).1 (by rw [Int.natCast_emod])
    rw [Nat.zero_mul, Nat.zero_add]
    exact e
  · exact (div64_big h l y w h0 hy y1 l1).mono fun _ _ ⟨he, hw⟩ => ⟨he, 0, by rw [← hw]; rfl⟩

end Go.Proofs.Ytcfidibkihkndaa
