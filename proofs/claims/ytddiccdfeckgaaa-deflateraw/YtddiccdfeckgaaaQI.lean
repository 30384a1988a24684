import Derived.Test.YtddiccdfeckgaaaQH
import Derived.Lib.BitFns
import Derived.Lib.MinMax
/- Layer 6: a number as a symbol and the bits behind it; lengths and distances are written. -/
namespace Go.Proofs.Ytddiccdfeckgaaa
open Go.RowKit
set_option maxRecDepth 100000
set_option linter.unusedVariables false
set_option linter.unusedSimpArgs false
theorem tabq_size : Lib.len8tab.size = 256 := by decide +kernel
theorem tabq_all : ∀ j : Fin 256, (Lib.len8tab[j.val]'(by rw [tabq_size]; exact j.isLt)).toNat = Lib.bitLen j.val := by decide +kernel
theorem tabq_at (i : Nat) (h : i < Lib.len8tab.size) : (Lib.len8tab[i]'h).toNat = Lib.bitLen i := tabq_all ⟨i, by rw [tabq_size] at h; exact h⟩
theorem tabq_close (k : Nat) (y : Int) (X : Nat) (h : y.toNat < Lib.len8tab.size) (hk : k ≤ 56) (e : Lib.bitLen X = k + Lib.bitLen y.toNat) :
    wrap64 ((k : Int) + wrap64 ((Lib.len8tab[y.toNat]'h).toNat : Int)) = (Lib.bitLen X : Int) := by
  have h8 : Lib.bitLen y.toNat ≤ 8 := Lib.bitLen_le8 ⟨y.toNat, by rw [tabq_size] at h; exact h⟩
  rw [tabq_at _ h, e]
  unfold wrap64
  omega
set_option maxHeartbeats 4000000 in
theorem len64q (x : Int) (w : World) (h0 : 0 ≤ x) (h1 : x ≤ 18446744073709551615) :
    Calls Try.prog 49 #[.int .u64 x] w fun e w' => e = .returned (.int .i64 (Lib.bitLen x.toNat)) ∧ w = w' := by
  have hsz : (Lib.len8tab.size : Int) = 256 := by rw [tabq_size]; rfl
  go_enter Try.func49, Try.ntmps49
  go_wp2
  all_goals (go_ret; refine ⟨ret_int ?_, rfl⟩)
  · exact tabq_close 56 _ _ _ (by omega) (by rw [show (x / 4294967296 / 65536 / 256).toNat = x.toNat / 72057594037927936 from by omega]; exact Lib.bitLen_shift56 _ (by omega) (by omega))
  · exact tabq_close 48 _ _ _ (by omega) (by rw [show (x / 4294967296 / 65536).toNat = x.toNat / 281474976710656 from by omega]; exact Lib.bitLen_shift48 _ (by omega) (by omega))
  · exact tabq_close 40 _ _ _ (by omega) (by rw [show (x / 4294967296 / 256).toNat = x.toNat / 1099511627776 from by omega]; exact Lib.bitLen_shift40 _ (by omega) (by omega))
  · exact tabq_close 32 _ _ _ (by omega) (by rw [show (x / 4294967296).toNat = x.toNat / 4294967296 from by omega]; exact Lib.bitLen_shift32 _ (by omega) (by omega))
  · exact tabq_close 24 _ _ _ (by omega) (by rw [show (x / 65536 / 256).toNat = x.toNat / 16777216 from by omega]; exact Lib.bitLen_shift24 _ (by omega) (by omega))
  · exact tabq_close 16 _ _ _ (by omega) (by rw [show (x / 65536).toNat = x.toNat / 65536 from by omega]; exact Lib.bitLen_shift16 _ (by omega) (by omega))
  · exact tabq_close 8 _ _ _ (by omega) (by rw [show (x / 256).toNat = x.toNat / 256 from by omega]; exact Lib.bitLen_shift8 _ (by omega) (by omega))
  · have := tabq_close 0 x x.toNat (by rw [tabq_size]; omega) (by omega) (by omega)
    rw [← this]
    simp
theorem len_any (v : Nat) (w : World) (hv : v < 65536) : Calls Try.prog 42 #[.int .u64 (v : Int)] w fun e w' => e = .returned (.int .i64 (Lib.bitLen v : Int)) ∧ w = w' := by
  have H := Lib.hid (fun W => len64q (v : Int) W (by omega) (by omega))
  rw [Int.toNat_natCast] at H
  go_enter Try.func42, Try.ntmps42
  go_wp2_with (go_at_call 49; refine (H.out _).mono ?_; rintro e w1 ⟨rfl, rfl⟩)
  go_ret
  exact ⟨rfl, rfl⟩
/-- how many bits stand behind the symbol -/
def D.sN (v u : Nat) : Nat := Lib.bitLen v - u
def D.sS (v u : Nat) : Nat := D.two (u - 1) * D.sN v u + v / D.two (D.sN v u)
def D.sR (v u : Nat) : Nat := v % D.two (D.sN v u)
def tdA (x y z : Nat) : Array Value := #[.int .i64 (x : Int), .int .i64 (y : Int), .int .i64 (z : Int)]
theorem tdA_one (x y z : Nat) : (tdA x y z).all (·.oneCell') = true := by unfold tdA; simp [Value.oneCell']
theorem sizeTd : (Try.prog.info? 59).map (·.size) = some 3 := by kernel_rfl
theorem zeroTd (w : World) : (zeroValue 59).run Try.prog w = .ok (.agg (tdA 0 0 0)) w := Try.zeroValue59 w
theorem builtTd (x y z : Nat) : Try.prog.built 59 [(0, .int .i64 (x : Int)), (1, .int .i64 (y : Int)), (2, .int .i64 (z : Int))] = some (tdA x y z) := by kernel_rfl
theorem andq (v n P : Nat) (hv : v < 65536) (hn : n ≤ 16) (hP : P = D.two n) (X : Nat) (hX : (X : Int) = (P : Int) - 1) : bits .and .i64 (v : Int) (X : Int) = ((v % P : Nat) : Int) := by
  have hp := D.two_pos n
  have h16 : D.two n ≤ 65536 := by
    have h2 : D.two n ≤ D.two 16 := by rw [D.two_pow, D.two_pow]; exact Nat.pow_le_pow_right (by omega) hn
    have h3 : D.two 16 = 65536 := by decide
    omega
  show IntKind.i64.wrap ((BitVec.ofInt 64 (v : Int) &&& BitVec.ofInt 64 (X : Int)).toNat : Int) = _
  have hXn : X = 2 ^ n - 1 := by rw [← D.two_pow]; omega
  rw [BitVec.toNat_and, ofInt_i64q v (by omega), ofInt_i64q X (by omega), hXn, Nat.and_two_pow_sub_one_eq_mod, hP, D.two_pow, IntKind.wrap_i64]
  have := Nat.mod_le v (2 ^ n)
  omega
set_option maxHeartbeats 2000000 in
theorem split_2 (v : Nat) (w : World) (hv : v < 32768) : Calls Try.prog 37 #[.int .i64 (v : Int), .int .i64 2] w fun e w' => e = .returned (.agg (tdA (D.sS v 2) (D.sR v 2) (D.sN v 2))) ∧ Below w.heap.size w w' := by
  have HL := Lib.hid (fun W => len_any v W (by omega))
  have hb15 : Lib.bitLen v ≤ 15 := Lib.bitLen_le v 15 (by omega) (by omega)
  obtain ⟨L, hL⟩ : ∃ L, L = Lib.bitLen v := ⟨_, rfl⟩
  obtain ⟨n, hn⟩ : ∃ n, n = D.sN v 2 := ⟨_, rfl⟩
  have hnL : n = L - 2 := by rw [hn, hL]; rfl
  rw [← hL] at HL hb15
  obtain ⟨P, hP⟩ : ∃ P, P = D.two n := ⟨_, rfl⟩
  have hn13 : n ≤ 13 := by omega
  have hP9 : P ≤ 8192 := by
    have h2 : D.two n ≤ D.two 13 := by rw [D.two_pow, D.two_pow]; exact Nat.pow_le_pow_right (by omega) hn13
    have h3 : D.two 13 = 8192 := by decide
    omega
  have hP1 : 0 < P := by rw [hP]; exact D.two_pos n
  have ep : (2 : Int) ^ n = (P : Int) := by rw [hP, D.two_pow]; push_cast; rfl
  have em : max 0 ((L : Int) - 2) = (n : Int) := by omega
  obtain ⟨q, hq⟩ : ∃ q, q = v / P := ⟨_, rfl⟩
  have eq1 : (v : Int) / (P : Int) = (q : Int) := by rw [hq]; push_cast; rfl
  have hq9 : q ≤ 32768 := by rw [hq]; have := Nat.div_le_self v P; omega
  obtain ⟨X, hX⟩ : ∃ X, X = P - 1 := ⟨_, rfl⟩
  have eX : (P : Int) - 1 = (X : Int) := by omega
  obtain ⟨r, hr⟩ : ∃ r, r = v % P := ⟨_, rfl⟩
  have ea : bits .and .i64 (v : Int) (X : Int) = (r : Int) := by rw [hr]; exact andq v n P (by omega) (by omega) hP X (by omega)
  obtain ⟨S, hS⟩ : ∃ S, S = 2 * n + q := ⟨_, rfl⟩
  have eS : 2 * (n : Int) + (q : Int) = (S : Int) := by omega
  have eS2 : (n : Int) * 2 + (q : Int) = (S : Int) := by omega
  have HE : Hid (D.sS v 2 = S ∧ D.sR v 2 = r ∧ D.sN v 2 = n) := Lib.hid ⟨by rw [hS, hq, hP, hn]; rfl, by rw [hr, hP, hn]; rfl, hn.symm⟩
  have hbt := builtTd S r n
  have hw : IntKind.u64.wrap (v : Int) = (v : Int) := by simp [IntKind.wrap, IntKind.bits, IntKind.signed]; omega
  clear hL hn hnL hP hq hX hr hS
  go_enter Try.func37, Try.ntmps37
  go_upto_region 2 with (first
    | (refine wl_alloc 59 _ zeroTd rfl rfl ?_; intro W1 b4 B4 l4 k4)
    | (go_at_call 42; refine (HL.out _).mono ?_; rintro e w1 ⟨rfl, rfl⟩))
  have f0 := B4.frozen 0
  have f1 := B4.frozen 1
  have f2 := B4.frozen 2
  have d0 : W1.cell? ⟨b4, 0, none⟩ = some (.int .i64 0) := B4.cell 0
  have d1 : W1.cell? ⟨b4, 1, none⟩ = some (.int .i64 0) := B4.cell 1
  have d2 : W1.cell? ⟨b4, 2, none⟩ = some (.int .i64 0) := B4.cell 2
  go_region
  go_wp2
  refine post_cell Try.underlying59 rfl sizeTd Try.results37 (((B4.set 0 (.int .i64 (S : Int))).set 1 (.int .i64 (r : Int))).set 2 (.int .i64 (n : Int))).drew rfl rfl rfl ?_
  refine ⟨?_, (bq_set (bq_set (bq_set k4 ⟨b4, 0, none⟩ l4 _) ⟨b4, 1, none⟩ l4 _) ⟨b4, 2, none⟩ l4 _).drew⟩
  rw [HE.out.1, HE.out.2.1, HE.out.2.2]
  rfl
set_option maxHeartbeats 2000000 in
theorem split_3 (v : Nat) (w : World) (hv : v < 32768) : Calls Try.prog 37 #[.int .i64 (v : Int), .int .i64 3] w fun e w' => e = .returned (.agg (tdA (D.sS v 3) (D.sR v 3) (D.sN v 3))) ∧ Below w.heap.size w w' := by
  have HL := Lib.hid (fun W => len_any v W (by omega))
  have hb15 : Lib.bitLen v ≤ 15 := Lib.bitLen_le v 15 (by omega) (by omega)
  obtain ⟨L, hL⟩ : ∃ L, L = Lib.bitLen v := ⟨_, rfl⟩
  obtain ⟨n, hn⟩ : ∃ n, n = D.sN v 3 := ⟨_, rfl⟩
  have hnL : n = L - 3 := by rw [hn, hL]; rfl
  rw [← hL] at HL hb15
  obtain ⟨P, hP⟩ : ∃ P, P = D.two n := ⟨_, rfl⟩
  have hn13 : n ≤ 13 := by omega
  have hP9 : P ≤ 8192 := by
    have h2 : D.two n ≤ D.two 13 := by rw [D.two_pow, D.two_pow]; exact Nat.pow_le_pow_right (by omega) hn13
    have h3 : D.two 13 = 8192 := by decide
    omega
  have hP1 : 0 < P := by rw [hP]; exact D.two_pos n
  have ep : (2 : Int) ^ n = (P : Int) := by rw [hP, D.two_pow]; push_cast; rfl
  have em : max 0 ((L : Int) - 3) = (n : Int) := by omega
  obtain ⟨q, hq⟩ : ∃ q, q = v / P := ⟨_, rfl⟩
  have eq1 : (v : Int) / (P : Int) = (q : Int) := by rw [hq]; push_cast; rfl
  have hq9 : q ≤ 32768 := by rw [hq]; have := Nat.div_le_self v P; omega
  obtain ⟨X, hX⟩ : ∃ X, X = P - 1 := ⟨_, rfl⟩
  have eX : (P : Int) - 1 = (X : Int) := by omega
  obtain ⟨r, hr⟩ : ∃ r, r = v % P := ⟨_, rfl⟩
  have ea : bits .and .i64 (v : Int) (X : Int) = (r : Int) := by rw [hr]; exact andq v n P (by omega) (by omega) hP X (by omega)
  obtain ⟨S, hS⟩ : ∃ S, S = 4 * n + q := ⟨_, rfl⟩
  have eS : 4 * (n : Int) + (q : Int) = (S : Int) := by omega
  have eS2 : (n : Int) * 4 + (q : Int) = (S : Int) := by omega
  have HE : Hid (D.sS v 3 = S ∧ D.sR v 3 = r ∧ D.sN v 3 = n) := Lib.hid ⟨by rw [hS, hq, hP, hn]; rfl, by rw [hr, hP, hn]; rfl, hn.symm⟩
  have hbt := builtTd S r n
  have hw : IntKind.u64.wrap (v : Int) = (v : Int) := by simp [IntKind.wrap, IntKind.bits, IntKind.signed]; omega
  clear hL hn hnL hP hq hX hr hS
  go_enter Try.func37, Try.ntmps37
  go_upto_region 2 with (first
    | (refine wl_alloc 59 _ zeroTd rfl rfl ?_; intro W1 b4 B4 l4 k4)
    | (go_at_call 42; refine (HL.out _).mono ?_; rintro e w1 ⟨rfl, rfl⟩))
  have f0 := B4.frozen 0
  have f1 := B4.frozen 1
  have f2 := B4.frozen 2
  have d0 : W1.cell? ⟨b4, 0, none⟩ = some (.int .i64 0) := B4.cell 0
  have d1 : W1.cell? ⟨b4, 1, none⟩ = some (.int .i64 0) := B4.cell 1
  have d2 : W1.cell? ⟨b4, 2, none⟩ = some (.int .i64 0) := B4.cell 2
  go_region
  go_wp2
  refine post_cell Try.underlying59 rfl sizeTd Try.results37 (((B4.set 0 (.int .i64 (S : Int))).set 1 (.int .i64 (r : Int))).set 2 (.int .i64 (n : Int))).drew rfl rfl rfl ?_
  refine ⟨?_, (bq_set (bq_set (bq_set k4 ⟨b4, 0, none⟩ l4 _) ⟨b4, 1, none⟩ l4 _) ⟨b4, 2, none⟩ l4 _).drew⟩
  rw [HE.out.1, HE.out.2.1, HE.out.2.2]
  rfl
end Go.Proofs.Ytddiccdfeckgaaa
