import Derived.Test.YtpeknlablcgchaaBi3
/- Layer 2: a field with a sign; the program's and the document's. -/
namespace Go.Proofs.Ytpeknlablcgchaa
open Go.RowKit
set_option linter.unusedVariables false

def sgV (s : ByteArray) (a n : Int) : Int := if 0 < n ∧ B.P2 n.toNat ≤ 2 * (plV s a n).toNat then plV s a n - B.P2 n.toNat else plV s a n
def sgR (s : ByteArray) (a n : Int) : Value := .tuple #[.int .i64 (sgV s a n), .agg #[.string (plS s a n), .int .i64 (plA s a n)], .int .i64 (plE s.size a n)]
theorem sg_cases (s : ByteArray) (a n : Int) : (∃ E A t, plR s a n = .tuple #[.int .i64 0, .agg #[.string t, .int .i64 A], .int .i64 E] ∧ (E == 0) = false ∧ sgR s a n = plR s a n) ∨
    (∃ N x : Nat, ∃ A z t, n = N ∧ N ≤ 31 ∧ x ≤ 2147483648 ∧ plR s a n = .tuple #[.int .i64 x, .agg #[.string t, .int .i64 A], .int .i64 0] ∧ sgR s a n = .tuple #[.int .i64 z, .agg #[.string t, .int .i64 A], .int .i64 0] ∧
      (x < B.P2 N ∧ (0 < N ∧ B.P2 N ≤ 2 * x ∧ z = (x : Int) - B.P2 N ∨ (N = 0 ∨ 2 * x < B.P2 N) ∧ z = x))) := by
  by_cases h : plE s.size a n = 0
  · right
    have hn : 0 ≤ n ∧ n ≤ 31 := by
      unfold plE at h
      split at h
      · omega
      · cases h
    obtain ⟨N, rfl⟩ := Int.eq_ofNat_of_zero_le hn.1
    obtain ⟨x, hx⟩ : ∃ x : Nat, x = B.fld s.data.toList a.toNat N := ⟨_, rfl⟩
    have hv : plV s a N = x := by unfold plV; rw [if_pos h, hx]; rfl
    have hlt : x < B.P2 N := by rw [hx]; exact B.fld_lt _ _ _
    have hP : B.P2 N ≤ B.P2 31 := B.P2_le (by omega)
    have hP2 : B.P2 31 = 2147483648 := rfl
    refine ⟨N, x, plA s a N, sgV s a N, plS s a N, rfl, by omega, by omega, by rw [plR, hv, h], by rw [sgR, h], hlt, ?_⟩
    unfold sgV
    rw [hv, Int.toNat_natCast, Int.toNat_natCast]
    by_cases c : 0 < (N : Int) ∧ B.P2 N ≤ 2 * x
    · left; rw [if_pos c]; exact ⟨by omega, c.2, rfl⟩
    · right; rw [if_neg c]; exact ⟨by omega, rfl⟩
  · left
    have hv : plV s a n = 0 := if_neg h
    refine ⟨plE s.size a n, plA s a n, plS s a n, by rw [plR, hv], by rw [beq_eq_false_iff_ne]; exact h, ?_⟩
    have hs : sgV s a n = 0 := by
      unfold sgV
      rw [hv, if_neg]
      have := B.P2_pos n.toNat
      simp
      omega
    rw [sgR, hs, plR, hv]
end Go.Proofs.Ytpeknlablcgchaa
