import Derived.Test.YtgflnkkhcapkmaaHr
/- Layer 4: a bit, and the number of bits; the program's and the document's. -/
namespace Go.Proofs.Ytgflnkkhcapkmaa
open Go.RowKit
set_option linter.unusedVariables false

def btv (s : ByteArray) (p : Nat) : Nat := (s.data.toList.getD (p / 8) 0).toNat / B.P2 (p % 8) % 2
def bt (s : ByteArray) (p : Nat) : Option Nat := if p < 8 * s.size then some (btv s p) else none
theorem btv_lt (s : ByteArray) (p : Nat) : btv s p < 2 := Nat.mod_lt _ (by omega)
theorem bytes_getElem (s : ByteArray) (k : Nat) (h : k < s.size) (h' : k < s.data.toList.length) : s[k] = s.data.toList[k] := by simp; rfl
theorem btv_at (s : ByteArray) (p : Nat) (h : p / 8 < s.size) : btv s p = s[p / 8].toNat / B.P2 (p % 8) % 2 := by
  unfold btv
  have h' : p / 8 < s.data.toList.length := by simpa using h
  rw [bytes_getElem s (p / 8) h h', List.getD_eq_getElem?_getD, List.getElem?_eq_getElem h']
  rfl
theorem P2_cast (n : Nat) : (2 : Int) ^ n = (B.P2 n : Int) := by unfold B.P2; push_cast; rfl
theorem div_pow (x k : Nat) : (x : Int) / 2 ^ k = ((x / B.P2 k : Nat) : Int) := by rw [P2_cast]; push_cast; rfl
theorem bit_word (c k : Nat) (hc : c < 256) : wrap64 (bits BinOp.and IntKind.u8 ((c : Int) / 2 ^ k) 1) = ((c / B.P2 k % 2 : Nat) : Int) := by
  have h : c / B.P2 k < 256 := Nat.lt_of_le_of_lt (Nat.div_le_self _ _) hc
  rw [div_pow]
  have e := u8_and_nat (c / B.P2 k) 1 h (by omega)
  have e1 : ((1 : Nat) : Int) = 1 := rfl
  rw [e1] at e
  rw [e, Nat.and_one_is_mod, i64_id _ (by omega) (by omega)]
theorem bit_yes (s : ByteArray) (p : Nat) (w : World) (hs : s.size ≤ 1099511627776) (h : p < 8 * s.size) :
    Calls Try.prog 17 #[.string s, .int .i64 p] w fun e w' => e = .returned (.tuple #[.int .i64 (btv s p : Int), .bool true]) ∧ w = w' := by
  have hi8 : p / 8 < s.size := by omega
  have HE : Hid (wrap64 (bits BinOp.and IntKind.u8 ((s[p / 8].toNat : Int) / 2 ^ (p % 8)) 1) = (btv s p : Int)) := Lib.hid (by
    rw [btv_at s p hi8]; exact bit_word _ _ (s[p / 8].toNat_lt))
  go_enter Try.func17, Try.ntmps17
  go_wp2
  rw [HE.out]
  go_ret2
  exact ⟨rfl, rfl⟩
theorem bit_no (s : ByteArray) (at_ : Int) (w : World) (hs : s.size ≤ 1099511627776) (h : at_ < 0 ∨ 8 * (s.size : Int) ≤ at_) :
    Calls Try.prog 17 #[.string s, .int .i64 at_] w fun e w' => e = .returned (.tuple #[.int .i64 0, .bool false]) ∧ w = w' := by
  rcases h with h | h
  · go_enter Try.func17, Try.ntmps17
    go_wp2
    go_ret2
    exact ⟨rfl, rfl⟩
  · have h2 : ¬ at_ < 0 := by omega
    go_enter Try.func17, Try.ntmps17
    go_wp2
    go_ret2
    exact ⟨rfl, rfl⟩
def RbRel (c m : Nat) (x i : Value) : Prop := ∃ j y : Nat, j ≤ m ∧ i = .int .i64 j ∧ x = .int .i64 (y : Int) ∧ y = c / B.P2 j ∧ y < 256
theorem half_div (x k : Nat) : x / B.P2 k / 2 = x / B.P2 (k + 1) := by rw [Nat.div_div_eq_div_mul, B.P2_succ, Nat.mul_comm]
theorem rbit_yes (s : ByteArray) (p : Nat) (w : World) (hs : s.size ≤ 1099511627776) (h : p < 8 * s.size) :
    Calls Try.prog 18 #[.string s, .int .i64 p] w fun e w' => e = .returned (.int .i64 (btv s p : Int)) ∧ w = w' := by
  have hi8 : p / 8 < s.size := by omega
  have hc := s[p / 8].toNat_lt
  have HE := Lib.hid (btv_at s p hi8)
  obtain ⟨c, hcc⟩ : ∃ c : Nat, c = s[p / 8].toNat := ⟨_, rfl⟩
  rw [← hcc] at HE hc
  have HC := Lib.hid hcc
  have HW : Hid (wrap64 (c : Int) = (c : Int)) := Lib.hid (i64_id _ (by omega) (by omega))
  clear hcc
  go_enter Try.func18, Try.ntmps18
  go_wp2
  rw [← HC.out, HW.out]
  go_loop [5, 6] (fun x i => RbRel c (p % 8) x i) (fun _ i => 8 - (intOf i).toNat)
  case atStart => exact ⟨0, c, by omega, rfl, rfl, by simp [B.P2_zero], by omega⟩
  case round =>
    obtain ⟨j, y, hj, rfl, rfl, hy, hy2⟩ := hrel
    have HY := Lib.hid hy
    clear hy
    by_cases hlt : j < p % 8
    · go_wp2
      go_round
      case rel => exact ⟨j + 1, y / 2, by omega, by go_num, by go_num, by rw [HY.out, half_div], by omega⟩
      case measure => simp [intOf]; omega
    · obtain rfl : j = p % 8 := by omega
      go_wp2
      go_ret
      exact ⟨ret_int (by rw [HE.out, ← HY.out]; omega), rfl⟩
theorem rbit_no (s : ByteArray) (at_ : Int) (w : World) (hs : s.size ≤ 1099511627776) (h : at_ < 0 ∨ 8 * (s.size : Int) ≤ at_) (h1 : at_ ≤ 9223372036854775807) :
    Calls Try.prog 18 #[.string s, .int .i64 at_] w fun e w' => e = .returned (.int .i64 (-1)) ∧ w = w' := by
  rcases h with h | h
  · go_enter Try.func18, Try.ntmps18
    go_wp2
    go_ret
    exact ⟨rfl, rfl⟩
  · have h2 : ¬ at_ < 0 := by omega
    have h3 : (s.size : Int) ≤ at_ / 8 := by omega
    go_enter Try.func18, Try.ntmps18
    go_wp2
    go_ret
    exact ⟨rfl, rfl⟩
/-- the number of n bits from p on -/
def nb (s : ByteArray) (p : Nat) : Nat → Nat
  | 0 => 0
  | n + 1 => nb s p n + btv s (p + n) * B.P2 n
theorem nb_lt (s : ByteArray) (p n : Nat) : nb s p n < B.P2 n := by
  induction n with
  | zero => rw [B.P2_zero]; exact Nat.zero_lt_one
  | succ n ih =>
    rw [nb, B.P2_succ]
    have h := btv_lt s (p + n)
    have h2 : btv s (p + n) = 0 ∨ btv s (p + n) = 1 := by omega
    rcases h2 with h2 | h2 <;> rw [h2] <;> omega
theorem P2_16 (n : Nat) (h : n ≤ 16) : B.P2 n ≤ 65536 := B.P2_le (b := 16) h
/-- what Bits answers -/
def bitsR (s : ByteArray) (at_ n : Int) : Value :=
  if at_ < 0 ∨ n < 0 ∨ 16 < n then .tuple #[.int .i64 0, .int .i64 0, .int .i64 1]
  else if 8 * (s.size : Int) < at_ + n then .tuple #[.int .i64 0, .int .i64 0, .int .i64 2]
  else .tuple #[.int .i64 (nb s at_.toNat n.toNat : Int), .int .i64 (at_ + n), .int .i64 0]
theorem ofInt_i64 (a : Nat) (ha : a < 9223372036854775808) : (BitVec.ofInt 64 (a : Int)).toNat = a := by
  rw [BitVec.ofInt_natCast, BitVec.toNat_ofNat]; exact Nat.mod_eq_of_lt (by omega)
theorem i64_or_nat (a b : Nat) (ha : a < 9223372036854775808) (hb : b < 9223372036854775808) : bits .or .i64 (a : Int) (b : Int) = ((a ||| b : Nat) : Int) := by
  have hx : a ||| b < 2 ^ 63 := Nat.or_lt_two_pow (by omega) (by omega)
  show IntKind.i64.wrap ((BitVec.ofInt 64 (a : Int) ||| BitVec.ofInt 64 (b : Int)).toNat : Int) = _
  rw [BitVec.toNat_or, ofInt_i64 a ha, ofInt_i64 b hb, IntKind.wrap_i64]
  omega
theorem or_bit (x b n : Nat) (hx : x < B.P2 n) (hb : b < 2) (hn : n ≤ 16) : bits BinOp.or IntKind.i64 (x : Int) (wrap64 ((b : Int) * 2 ^ n)) = ((x + b * B.P2 n : Nat) : Int) := by
  have h16 := P2_16 n hn
  have hb2 : b * B.P2 n ≤ 65536 := by
    have : b = 0 ∨ b = 1 := by omega
    rcases this with h | h <;> rw [h] <;> omega
  have e : (b : Int) * 2 ^ n = ((b * B.P2 n : Nat) : Int) := by rw [P2_cast]; push_cast; rfl
  rw [e, i64_id _ (by omega) (by omega), i64_or_nat _ _ (by omega) (by omega)]
  have := Nat.two_pow_add_eq_or_of_lt (i := n) (b := x) hx b
  congr 1
  unfold B.P2
  rw [Nat.or_comm, Nat.mul_comm b, ← this, Nat.add_comm]
theorem bits_arg (s : ByteArray) (at_ n : Int) (w : World) (h : at_ < 0 ∨ n < 0 ∨ 16 < n) :
    Calls Try.prog 15 #[.string s, .int .i64 at_, .int .i64 n] w fun e w' => e = .returned (.tuple #[.int .i64 0, .int .i64 0, .int .i64 1]) ∧ w = w' := by
  by_cases h1 : at_ < 0
  · go_enter Try.func15, Try.ntmps15
    go_wp2
    go_ret3
    exact ⟨rfl, rfl⟩
  · by_cases h2 : n < 0
    · go_enter Try.func15, Try.ntmps15
      go_wp2
      go_ret3
      exact ⟨rfl, rfl⟩
    · have h3 : 16 < n := by omega
      go_enter Try.func15, Try.ntmps15
      go_wp2
      go_ret3
      exact ⟨rfl, rfl⟩
theorem bits_short (s : ByteArray) (at_ n : Int) (w : World) (hs : s.size ≤ 1099511627776) (h0 : 0 ≤ at_) (h01 : at_ ≤ 9223372036854775807) (h1 : 0 ≤ n) (h2 : n ≤ 16) (h : 8 * (s.size : Int) < at_ + n) :
    Calls Try.prog 15 #[.string s, .int .i64 at_, .int .i64 n] w fun e w' => e = .returned (.tuple #[.int .i64 0, .int .i64 0, .int .i64 2]) ∧ w = w' := by
  go_enter Try.func15, Try.ntmps15
  go_wp2
  go_ret3
  exact ⟨rfl, rfl⟩
def NbRel (s : ByteArray) (p n : Nat) (v i : Value) : Prop := ∃ j x : Nat, j ≤ n ∧ i = .int .i64 j ∧ v = .int .i64 (x : Int) ∧ x = nb s p j
set_option maxHeartbeats 1000000 in
theorem bits_ok (s : ByteArray) (p n : Nat) (w : World) (hs : s.size ≤ 1099511627776) (h : p + n ≤ 8 * s.size) (hn : n ≤ 16) :
    Calls Try.prog 15 #[.string s, .int .i64 p, .int .i64 n] w fun e w' => e = .returned (.tuple #[.int .i64 (nb s p n : Int), .int .i64 ((p : Int) + n), .int .i64 0]) ∧ w = w' := by
  go_enter Try.func15, Try.ntmps15
  go_wp2_with fail
  go_loop [9, 31] (fun v i => NbRel s p n v i) (fun _ i => n - (intOf i).toNat)
  case atStart => exact ⟨0, 0, by omega, rfl, rfl, rfl⟩
  case round =>
    obtain ⟨j, x, hj, rfl, rfl, hx⟩ := hrel
    have hx2 := nb_lt s p j
    rw [← hx] at hx2
    have HX := Lib.hid hx
    clear hx
    by_cases hlt : j < n
    · have HB := Lib.hid (bit_yes s (p + j) w hs (by omega))
      have ej : ((p + j : Nat) : Int) = (p : Int) + (j : Int) := by omega
      rw [ej] at HB
      have hb2 := btv_lt s (p + j)
      have HO := Lib.hid (or_bit x (btv s (p + j)) j hx2 hb2 (by omega))
      have HN : Hid (x + btv s (p + j) * B.P2 j = nb s p (j + 1)) := Lib.hid (by rw [HX.out]; rfl)
      generalize btv s (p + j) = y at *
      clear ej hx2
      go_wp2_with (go_at_call 17; refine HB.out.mono ?_; rintro e w' ⟨rfl, rfl⟩)
      rw [HO.out]
      go_round
      case rel => exact ⟨j + 1, _, by omega, by go_num, rfl, HN.out⟩
      case measure => simp [intOf]; omega
    · obtain rfl : j = n := by omega
      clear hx2
      go_wp2
      go_ret3
      exact ⟨by rw [← HX.out]; rfl, rfl⟩
theorem bits_any (s : ByteArray) (at_ n : Int) (w : World) (hs : s.size ≤ 1099511627776) (h1 : at_ ≤ 9223372036854775807) :
    Calls Try.prog 15 #[.string s, .int .i64 at_, .int .i64 n] w fun e w' => e = .returned (bitsR s at_ n) ∧ w = w' := by
  unfold bitsR
  by_cases c1 : at_ < 0 ∨ n < 0 ∨ 16 < n
  · rw [if_pos c1]; exact bits_arg s at_ n w c1
  · rw [if_neg c1]
    by_cases c2 : 8 * (s.size : Int) < at_ + n
    · rw [if_pos c2]; exact bits_short s at_ n w hs (by omega) h1 (by omega) (by omega) c2
    · rw [if_neg c2]
      obtain ⟨p, rfl⟩ : ∃ p : Nat, at_ = (p : Int) := ⟨at_.toNat, by omega⟩
      obtain ⟨m, rfl⟩ : ∃ m : Nat, n = (m : Int) := ⟨n.toNat, by omega⟩
      exact bits_ok s p m w hs (by omega) (by omega)
theorem rbits_arg (s : ByteArray) (at_ n : Int) (w : World) (h : at_ < 0 ∨ n < 0 ∨ 16 < n) :
    Calls Try.prog 16 #[.string s, .int .i64 at_, .int .i64 n] w fun e w' => e = .returned (.tuple #[.int .i64 0, .int .i64 0, .int .i64 1]) ∧ w = w' := by
  by_cases h1 : at_ < 0
  · go_enter Try.func16, Try.ntmps16
    go_wp2
    go_ret3
    exact ⟨rfl, rfl⟩
  · by_cases h2 : n < 0
    · go_enter Try.func16, Try.ntmps16
      go_wp2
      go_ret3
      exact ⟨rfl, rfl⟩
    · have h3 : 16 < n := by omega
      go_enter Try.func16, Try.ntmps16
      go_wp2
      go_ret3
      exact ⟨rfl, rfl⟩
def RnRel (s : ByteArray) (p n : Nat) (v q i : Value) : Prop := ∃ j x y : Nat, j ≤ n ∧ i = .int .i64 j ∧ v = .int .i64 (x : Int) ∧ q = .int .i64 (y : Int) ∧ x = nb s p j ∧ y = B.P2 j ∧ (0 < j → p + j ≤ 8 * s.size)
theorem add_bit (x b y n : Nat) (hx : x < B.P2 n) (hy : y = B.P2 n) (hb : b < 2) (hn : n ≤ 16) : wrap64 ((x : Int) + wrap64 ((y : Int) * (b : Int))) = ((x + b * B.P2 n : Nat) : Int) := by
  have h16 := P2_16 n hn
  have e : (y : Int) * (b : Int) = ((b * B.P2 n : Nat) : Int) := by rw [hy]; push_cast; exact Int.mul_comm _ _
  have hb2 : b * B.P2 n ≤ 65536 := by
    have : b = 0 ∨ b = 1 := by omega
    rcases this with h | h <;> rw [h] <;> omega
  rw [e, i64_id ((b * B.P2 n : Nat) : Int) (by omega) (by omega), i64_id _ (by omega) (by omega)]
  omega
set_option maxHeartbeats 1000000 in
theorem rbits_some (s : ByteArray) (p n : Nat) (w : World) (hs : s.size ≤ 1099511627776) (hp : p ≤ 9223372036854775807) (hn : n ≤ 16) :
    Calls Try.prog 16 #[.string s, .int .i64 p, .int .i64 n] w fun e w' => e = .returned (bitsR s p n) ∧ w = w' := by
  have hr1 : ¬ ((p : Int) < 0 ∨ (n : Int) < 0 ∨ 16 < (n : Int)) := by omega
  have HR : Hid (bitsR s p n = if 8 * (s.size : Int) < (p : Int) + n then .tuple #[.int .i64 0, .int .i64 0, .int .i64 2] else .tuple #[.int .i64 (nb s p n : Int), .int .i64 ((p : Int) + n), .int .i64 0]) := Lib.hid (by
    unfold bitsR; rw [if_neg hr1]; rfl)
  clear hr1
  go_enter Try.func16, Try.ntmps16
  go_wp2_with fail
  go_loop [9, 10, 11] (fun v q i => RnRel s p n v q i) (fun _ _ i => n - (intOf i).toNat)
  case atStart => exact ⟨0, 0, 1, by omega, rfl, rfl, rfl, rfl, rfl, fun h => by omega⟩
  case round =>
    obtain ⟨j, x, y, hj, rfl, rfl, rfl, hx, hy, hin0⟩ := hrel
    have hx2 := nb_lt s p j
    rw [← hx] at hx2
    have hy2 := P2_16 j (by omega)
    rw [← hy] at hy2
    have HX := Lib.hid hx
    have HY := Lib.hid hy
    clear hx hy
    by_cases hlt : j < n
    · by_cases hin : p + j < 8 * s.size
      · have HB := Lib.hid (rbit_yes s (p + j) w hs hin)
        have ej : ((p + j : Nat) : Int) = (p : Int) + (j : Int) := by omega
        rw [ej] at HB
        have hb2 := btv_lt s (p + j)
        have HO := Lib.hid (add_bit x (btv s (p + j)) y j hx2 HY.out hb2 (by omega))
        have HN : Hid (x + btv s (p + j) * B.P2 j = nb s p (j + 1)) := Lib.hid (by rw [HX.out]; rfl)
        have HP : Hid (y * 2 = B.P2 (j + 1)) := Lib.hid (by rw [HY.out, B.P2_succ, Nat.mul_comm])
        generalize btv s (p + j) = u at *
        clear ej hx2 hin0
        go_wp2_with (go_at_call 18; refine HB.out.mono ?_; rintro e w' ⟨rfl, rfl⟩)
        rw [HO.out]
        go_round
        case rel => exact ⟨j + 1, _, y * 2, by omega, by go_num, rfl, by go_num, HN.out, HP.out, fun _ => by omega⟩
        case measure => simp [intOf]; omega
      · have h2 : 8 * (s.size : Int) < (p : Int) + n := by omega
        have HE : Hid (bitsR s p n = .tuple #[.int .i64 0, .int .i64 0, .int .i64 2]) := Lib.hid (by rw [HR.out, if_pos h2])
        clear hx2
        by_cases j0 : j = 0
        · subst j0
          have HB := Lib.hid (rbit_no s p w hs (Or.inr (by omega)) (by omega))
          go_wp2_with (go_at_call 18; refine HB.out.mono ?_; rintro e w' ⟨rfl, rfl⟩)
          go_ret3
          exact ⟨by rw [HE.out]; rfl, rfl⟩
        · have h8 := hin0 (by omega)
          have HB := Lib.hid (rbit_no s ((p : Int) + (j : Int)) w hs (Or.inr (by omega)) (by omega))
          clear hin0
          go_wp2_with (go_at_call 18; refine HB.out.mono ?_; rintro e w' ⟨rfl, rfl⟩)
          go_ret3
          exact ⟨by rw [HE.out]; rfl, rfl⟩
    · obtain rfl : j = n := by omega
      clear hx2
      by_cases j0 : j = 0
      · subst j0
        clear hin0 HY
        have hx0 := HX.out
        subst hx0
        by_cases h2 : 8 * (s.size : Int) < (p : Int)
        · have HE : Hid (bitsR s p (0 : Nat) = .tuple #[.int .i64 0, .int .i64 0, .int .i64 2]) := Lib.hid (by rw [HR.out, if_pos (by omega)])
          clear HR HX
          go_wp2
          go_ret3
          exact ⟨congrArg Ending.returned HE.out.symm, rfl⟩
        · have HE : Hid (bitsR s p (0 : Nat) = .tuple #[.int .i64 (nb s p 0 : Int), .int .i64 (p : Int), .int .i64 0]) := Lib.hid (by rw [HR.out, if_neg (by omega)]; simp)
          clear HR HX
          go_wp2
          go_ret3
          exact ⟨congrArg Ending.returned HE.out.symm, rfl⟩
      · have q0 : ((j : Int) == 0) = false := by rw [beq_eq_false_iff_ne]; omega
        have h8 := hin0 (by omega)
        have HE : Hid (bitsR s p j = .tuple #[.int .i64 (x : Int), .int .i64 ((p : Int) + j), .int .i64 0]) := Lib.hid (by rw [HR.out, if_neg (by omega), ← HX.out])
        clear HR hin0 j0
        go_wp2
        go_ret3
        exact ⟨by rw [HE.out]; rfl, rfl⟩
theorem rbits_any (s : ByteArray) (at_ n : Int) (w : World) (hs : s.size ≤ 1099511627776) (h1 : at_ ≤ 9223372036854775807) :
    Calls Try.prog 16 #[.string s, .int .i64 at_, .int .i64 n] w fun e w' => e = .returned (bitsR s at_ n) ∧ w = w' := by
  by_cases c1 : at_ < 0 ∨ n < 0 ∨ 16 < n
  · unfold bitsR
    rw [if_pos c1]; exact rbits_arg s at_ n w c1
  · obtain ⟨p, rfl⟩ : ∃ p : Nat, at_ = (p : Int) := ⟨at_.toNat, by omega⟩
    obtain ⟨m, rfl⟩ : ∃ m : Nat, n = (m : Int) := ⟨n.toNat, by omega⟩
    exact rbits_some s p m w hs (by omega) (by omega)
end Go.Proofs.Ytgflnkkhcapkmaa
