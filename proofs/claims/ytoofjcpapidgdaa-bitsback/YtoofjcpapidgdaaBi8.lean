import Derived.Test.YtoofjcpapidgdaaBi1
import Derived.Lib.BitFns
/- Layer 2: the width of a number; the program's and the document's. -/
namespace Go.Proofs.Ytoofjcpapidgdaa
open Go.RowKit
set_option linter.unusedVariables false

theorem tab_size : Lib.len8tab.size = 256 := by decide +kernel
theorem tab_all : ∀ j : Fin 256, (Lib.len8tab[j.val]'(by rw [tab_size]; exact j.isLt)).toNat = Lib.bitLen j.val := by decide +kernel
theorem tab_at (i : Nat) (h : i < Lib.len8tab.size) : (Lib.len8tab[i]'h).toNat = Lib.bitLen i := tab_all ⟨i, by rw [tab_size] at h; exact h⟩
theorem tab_close (k : Nat) (y : Int) (X : Nat) (h : y.toNat < Lib.len8tab.size) (hk : k ≤ 56) (e : Lib.bitLen X = k + Lib.bitLen y.toNat) :
    wrap64 ((k : Int) + wrap64 ((Lib.len8tab[y.toNat]'h).toNat : Int)) = (Lib.bitLen X : Int) := by
  have h8 : Lib.bitLen y.toNat ≤ 8 := Lib.bitLen_le8 ⟨y.toNat, by rw [tab_size] at h; exact h⟩
  rw [tab_at _ h, e]
  unfold wrap64
  omega
set_option maxHeartbeats 4000000 in
set_option maxRecDepth 100000 in
theorem len64_any (x : Int) (w : World) (h0 : 0 ≤ x) (h1 : x ≤ 18446744073709551615) :
    Calls Try.prog 43 #[.int .u64 x] w fun e w' => e = .returned (.int .i64 (Lib.bitLen x.toNat)) ∧ w = w' := by
  have hsz : (Lib.len8tab.size : Int) = 256 := by rw [tab_size]; rfl
  go_enter Try.func43, Try.ntmps43
  go_wp2
  all_goals (go_ret; refine ⟨ret_int ?_, rfl⟩)
  · exact tab_close 56 _ _ _ (by omega) (by rw [show (x / 4294967296 / 65536 / 256).toNat = x.toNat / 72057594037927936 from by omega]; exact Lib.bitLen_shift56 _ (by omega) (by omega))
  · exact tab_close 48 _ _ _ (by omega) (by rw [show (x / 4294967296 / 65536).toNat = x.toNat / 281474976710656 from by omega]; exact Lib.bitLen_shift48 _ (by omega) (by omega))
  · exact tab_close 40 _ _ _ (by omega) (by rw [show (x / 4294967296 / 256).toNat = x.toNat / 1099511627776 from by omega]; exact Lib.bitLen_shift40 _ (by omega) (by omega))
  · exact tab_close 32 _ _ _ (by omega) (by rw [show (x / 4294967296).toNat = x.toNat / 4294967296 from by omega]; exact Lib.bitLen_shift32 _ (by omega) (by omega))
  · exact tab_close 24 _ _ _ (by omega) (by rw [show (x / 65536 / 256).toNat = x.toNat / 16777216 from by omega]; exact Lib.bitLen_shift24 _ (by omega) (by omega))
  · exact tab_close 16 _ _ _ (by omega) (by rw [show (x / 65536).toNat = x.toNat / 65536 from by omega]; exact Lib.bitLen_shift16 _ (by omega) (by omega))
  · exact tab_close 8 _ _ _ (by omega) (by rw [show (x / 256).toNat = x.toNat / 256 from by omega]; exact Lib.bitLen_shift8 _ (by omega) (by omega))
  · have := tab_close 0 x x.toNat (by rw [tab_size]; omega) (by omega) (by omega)
    rw [← this]
    simp

theorem bitLen_pos (x : Nat) (h : 0 < x) (hx : x < 2 ^ 64) : 1 ≤ Lib.bitLen x := by rw [Lib.bitLen_half x (by omega) hx]; omega
theorem bitLen_ge (x k : Nat) (h : B.P2 k ≤ x) (hx : x < 2 ^ 64) : k + 1 ≤ Lib.bitLen x := by
  rw [Lib.bitLen_shift k x h hx]
  have h1 : 0 < x / 2 ^ k := Nat.div_pos h (Nat.two_pow_pos k)
  have h2 : x / 2 ^ k < 2 ^ 64 := Nat.lt_of_le_of_lt (Nat.div_le_self _ _) hx
  have := bitLen_pos _ h1 h2
  omega
theorem bitLen_iff (x k : Nat) (hk : k ≤ 64) (hx : x < 2 ^ 64) : Lib.bitLen x ≤ k ↔ x < B.P2 k := by
  constructor
  · intro h
    apply Nat.lt_of_not_le
    intro h2
    have := bitLen_ge x k h2 hx
    omega
  · intro h; exact Lib.bitLen_le x k hk h
/-- how far a number is from 0, or from -1 -/
def mag (v : Int) : Nat := if v < 0 then (-v - 1).toNat else v.toNat
def wd (v : Int) : Nat := if v = 0 then 0 else Lib.bitLen (mag v) + 1
def pw (v : Int) : Nat := Lib.bitLen v.toNat
theorem mag_lt (v : Int) (h0 : -9223372036854775808 ≤ v) (h1 : v ≤ 9223372036854775807) : mag v < 9223372036854775808 := by unfold mag; split <;> omega
theorem mag_fits (v : Int) (p : Nat) : mag v < p ↔ -(p : Int) ≤ v ∧ v < p := by unfold mag; split <;> omega
theorem wd_iff (v : Int) (n : Nat) (hv : v ≠ 0) (h0 : -9223372036854775808 ≤ v) (h1 : v ≤ 9223372036854775807) (hn : n ≤ 63) : wd v ≤ n + 1 ↔ -(B.P2 n : Int) ≤ v ∧ v < B.P2 n := by
  have hm := mag_lt v h0 h1
  rw [← mag_fits, ← bitLen_iff (mag v) n (by omega) (by omega), wd, if_neg hv]
  omega
theorem wd_le (v : Int) (h0 : -9223372036854775808 ≤ v) (h1 : v ≤ 9223372036854775807) : wd v ≤ 64 := by
  unfold wd
  split
  · omega
  · have hm := mag_lt v h0 h1
    have := (bitLen_iff (mag v) 63 (by omega) (by omega)).2 hm
    omega
theorem wd_pos (v : Int) (hv : v ≠ 0) : 1 ≤ wd v := by unfold wd; rw [if_neg hv]; omega
theorem wd_zero : wd 0 = 0 := rfl

theorem xor_neg1 (v : Int) (h0 : -9223372036854775808 ≤ v) (h1 : v ≤ 9223372036854775807) : bits .xor .i64 (-1) v = -v - 1 := by
  show IntKind.i64.wrap ((BitVec.ofInt 64 (-1) ^^^ BitVec.ofInt 64 v).toNat : Int) = _
  have e1 : BitVec.ofInt 64 (-1) = BitVec.allOnes 64 := by decide
  rw [e1, BitVec.allOnes_xor, BitVec.toNat_not, BitVec.toNat_ofInt, IntKind.wrap_i64]
  have e2 : ((2 ^ 64 : Nat) : Int) = 18446744073709551616 := rfl
  have e3 : (2 : Nat) ^ 64 = 18446744073709551616 := rfl
  rw [e2, e3]
  omega
theorem u64_wrap (x : Int) (h0 : 0 ≤ x) (h1 : x ≤ 18446744073709551615) : IntKind.u64.wrap x = x := by rw [IntKind.wrap_u64]; omega
theorem width_any (v : Int) (w : World) (h0 : -9223372036854775808 ≤ v) (h1 : v ≤ 9223372036854775807) :
    Calls Try.prog 41 #[.int .i64 v] w fun e w' => e = .returned (.int .i64 (wd v : Int)) ∧ w = w' := by
  have hw := wd_le v h0 h1
  by_cases hp : 0 < v
  · have HE : Hid (Lib.bitLen v.toNat + 1 = wd v) := Lib.hid (by unfold wd mag; rw [if_neg (by omega), if_neg (by omega)])
    have hb : Lib.bitLen v.toNat ≤ 64 := by have := HE.out; omega
    have HL := fun w => len64_any v w (by omega) (by omega)
    generalize Lib.bitLen v.toNat = y at *
    have HL2 := Lib.hid HL
    clear HL
    go_enter Try.func41, Try.ntmps41
    go_wp2_with (go_at_call 43; refine (HL2.out _).mono ?_; rintro e w' ⟨rfl, rfl⟩)
    go_ret
    exact ⟨ret_int (by have := HE.out; omega), rfl⟩
  · by_cases hn : v < 0
    · have HE : Hid (Lib.bitLen (-v - 1).toNat + 1 = wd v) := Lib.hid (by unfold wd mag; rw [if_neg (by omega), if_pos (by omega)])
      have hb : Lib.bitLen (-v - 1).toNat ≤ 64 := by have := HE.out; omega
      have HL := fun w => len64_any (-v - 1) w (by omega) (by omega)
      generalize Lib.bitLen (-v - 1).toNat = y at *
      have HL2 := Lib.hid HL
      clear HL
      go_enter Try.func41, Try.ntmps41
      go_wp2_with fail
      rw [xor_neg1 v h0 h1, u64_wrap _ (by omega) (by omega)]
      refine (HL2.out _).mono ?_
      rintro e w' ⟨rfl, rfl⟩
      go_wp2
      go_ret
      exact ⟨ret_int (by have := HE.out; omega), rfl⟩
    · obtain rfl : v = 0 := by omega
      go_enter Try.func41, Try.ntmps41
      go_wp2
      go_ret
      exact ⟨rfl, rfl⟩
def WdRel (v : Int) (n : Value) : Prop := ∃ k : Nat, k ≤ wd v ∧ n = .int .i64 k
set_option maxHeartbeats 1000000 in
theorem refwidth_any (v : Int) (w : World) (h0 : -9223372036854775808 ≤ v) (h1 : v ≤ 9223372036854775807) :
    Calls Try.prog 30 #[.int .i64 v] w fun e w' => e = .returned (.int .i64 (wd v : Int)) ∧ w = w' := by
  have hw := wd_le v h0 h1
  have HI := Lib.hid (wd_iff v)
  go_enter Try.func30, Try.ntmps30
  go_wp2
  go_loop [3] (fun n => WdRel v n) (fun n => 65 - (intOf n).toNat)
  case atStart => exact ⟨0, by omega, rfl⟩
  case round =>
    obtain ⟨k, hk, rfl⟩ := hrel
    by_cases hv : v = 0
    · subst hv
      rw [wd_zero] at hk
      obtain rfl : k = 0 := by omega
      clear HI
      go_wp2
      go_ret
      exact ⟨rfl, rfl⟩
    · have hvb : (v != 0) = true := by rw [bne_iff_ne]; exact hv
      by_cases k0 : k = 0
      · subst k0
        have hwp := wd_pos v hv
        clear HI
        go_wp2
        go_round
        case rel => exact ⟨1, by omega, rfl⟩
        case measure => simp [intOf]
      · by_cases k64 : k = 64
        · subst k64
          have HZ : Hid (wd v = 64) := Lib.hid (by omega)
          clear HI
          go_wp2
          go_ret
          exact ⟨ret_int (by rw [HZ.out]; rfl), rfl⟩
        · by_cases k63 : k = 63
          · subst k63
            have hi := HI.out 62 hv h0 h1 (by omega)
            have h62 : B.P2 62 = 4611686018427387904 := rfl
            rw [h62] at hi
            clear HI h62
            by_cases hf : -4611686018427387904 ≤ v
            · by_cases hg : v < 4611686018427387904
              · have HZ : Hid (wd v = 63) := Lib.hid (by have := hi.2 ⟨hf, hg⟩; omega)
                clear hi
                go_wp2
                go_ret
                exact ⟨ret_int (by rw [HZ.out]; rfl), rfl⟩
              · have HZ : Hid (64 ≤ wd v) := Lib.hid (by apply Nat.le_of_not_lt; intro h; have := (hi.1 (by omega)).2; omega)
                clear hi
                go_wp2
                go_round
                case rel => exact ⟨64, HZ.out, rfl⟩
                case measure => simp [intOf]
            · have HZ : Hid (64 ≤ wd v) := Lib.hid (by apply Nat.le_of_not_lt; intro h; have := (hi.1 (by omega)).1; omega)
              clear hi
              go_wp2
              go_round
              case rel => exact ⟨64, HZ.out, rfl⟩
              case measure => simp [intOf]
          · have k1 : 1 ≤ k := by omega
            have k2 : k ≤ 62 := by omega
            have hi := HI.out (k - 1) hv h0 h1 (by omega)
            rw [show k - 1 + 1 = k by omega] at hi
            have HP := fun w => power_any (k - 1) w (by omega)
            rw [show ((k - 1 : Nat) : Int) = (k : Int) - 1 by omega] at HP
            have hpb : B.P2 (k - 1) ≤ 4611686018427387904 := P2_bd (by omega)
            generalize B.P2 (k - 1) = y at *
            have HP2 := Lib.hid HP
            have e63 : ((k : Int) == 63) = false := by rw [beq_eq_false_iff_ne]; omega
            clear HI HP k0 k64 k63
            by_cases hf : -(y : Int) ≤ v
            · by_cases hg : v < y
              · have HZ : Hid (wd v = k) := Lib.hid (by have := hi.2 ⟨hf, hg⟩; omega)
                clear hi
                go_wp2_with (go_at_call 38; refine (HP2.out _).mono ?_; rintro e w' ⟨rfl, rfl⟩)
                go_ret
                exact ⟨ret_int (by rw [HZ.out]), rfl⟩
              · have hgb : decide (v < (y : Int)) = false := by simp; omega
                have HZ : Hid (k + 1 ≤ wd v) := Lib.hid (by apply Nat.le_of_not_lt; intro h; have := (hi.1 (by omega)).2; omega)
                clear hi
                go_wp2_with (go_at_call 38; refine (HP2.out _).mono ?_; rintro e w' ⟨rfl, rfl⟩)
                go_round
                case rel => exact ⟨k + 1, HZ.out, by go_num⟩
                case measure => simp [intOf]; omega
            · have hgb : decide (-(y : Int) ≤ v) = false := by simp; omega
              have HZ : Hid (k + 1 ≤ wd v) := Lib.hid (by apply Nat.le_of_not_lt; intro h; have := (hi.1 (by omega)).1; omega)
              clear hi
              go_wp2_with (go_at_call 38; refine (HP2.out _).mono ?_; rintro e w' ⟨rfl, rfl⟩)
              go_round
              case rel => exact ⟨k + 1, HZ.out, by go_num⟩
              case measure => simp [intOf]; omega
end Go.Proofs.Ytoofjcpapidgdaa
