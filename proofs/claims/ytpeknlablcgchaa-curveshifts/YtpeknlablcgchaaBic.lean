import Derived.Test.YtpeknlablcgchaaBib
import Derived.Test.YtpeknlablcgchaaBi8
/- Layer 2: PutPlain, PutSigned. -/
namespace Go.Proofs.Ytpeknlablcgchaa
open Go.RowKit
set_option linter.unusedVariables false

/-- the free bits of a writer, or 0 if it is not as it must be -/
def nf (s : ByteArray) (f : Int) : Nat := if 0 < f ∧ f ≤ 7 ∧ 0 < s.size ∧ B.bv s.data.toList % B.P2 f.toNat = 0 then f.toNat else 0
theorem nf_snd (s : ByteArray) (f : Int) : B.Snd s.data.toList (nf s f) := by
  unfold nf
  split
  · rename_i h
    refine ⟨by omega, by rw [bytes_length]; omega, h.2.2.2⟩
  · exact ⟨by omega, by omega, by rw [B.P2_zero, Nat.mod_one]⟩
theorem nf_of_snd (s : ByteArray) (f : Nat) (h : B.Snd s.data.toList f) : nf s f = f := by
  unfold nf
  have h2 := h.2.1
  rw [bytes_length] at h2
  by_cases e : f = 0
  · subst e; rw [if_neg (by omega)]
  · rw [if_pos ⟨by omega, by have := h.1; omega, by omega, by rw [Int.toNat_natCast]; exact h.2.2⟩, Int.toNat_natCast]
theorem last_mod_bs (s : ByteArray) (m : Nat) (hm : m < s.size) (hm2 : s.size ≤ m + 1) (f : Nat) (hf : f ≤ 8) : B.bv s.data.toList % B.P2 f = s[m].toNat % B.P2 f := by
  have e := B.last_mod (s.data.toList.take m) s[m] f hf
  rw [← split_last s m hm hm2] at e
  exact e
def errW : Value := .tuple #[.agg #[.string ⟨#[]⟩, .int .i64 0], .int .i64 1]
theorem box2_now (w : World) (x y x' y' : Value) (t t' : TypeId) : Box ((w.alloc (.cells #[x, y] t)).alloc (.cells #[x', y'] t')) w.heap.size x y ∧ Box ((w.alloc (.cells #[x, y] t)).alloc (.cells #[x', y'] t')) (w.heap.size + 1) x' y' ∧ Below w.heap.size w ((w.alloc (.cells #[x, y] t)).alloc (.cells #[x', y'] t')) :=
  box2_kept (bq_refl _)
/-- the writer behind, if it fits -/
def ppR (s : ByteArray) (f : Int) (v n : Nat) : Value := .tuple #[.agg #[.string (bs (B.putL s.data.toList (nf s f) v n)), .int .i64 (B.putF s.size (nf s f) n : Int)], .int .i64 0]
def ppOk (v n : Int) : Bool := decide (0 ≤ n) && decide (n ≤ 31) && decide (0 ≤ v) && decide (v.toNat < B.P2 n.toNat)
/-- the bits of a number with a sign, as one without -/
def sgU (v : Int) (n : Nat) : Nat := if v < 0 then (v + B.P2 n).toNat else v.toNat
def psOk (v n : Int) : Bool := decide (0 ≤ n) && decide (n ≤ 31) && decide ((wd v : Int) ≤ n)
theorem sgU_lt (v : Int) (n : Nat) (v0 : -9223372036854775808 ≤ v) (v1 : v ≤ 9223372036854775807) (hn : n ≤ 31) (hw : wd v ≤ n) : sgU v n < B.P2 n ∧ (v < 0 → -(B.P2 n : Int) ≤ 2 * v) ∧ (0 ≤ v → 2 * v < B.P2 n) := by
  by_cases h0 : v = 0
  · subst h0; exact ⟨B.P2_pos n, by omega, by have := B.P2_pos n; omega⟩
  · have hp := wd_pos v h0
    have hi := (wd_iff v (n - 1) h0 v0 v1 (by omega)).1 (by omega)
    have hP := B.P2_succ (n - 1)
    rw [show n - 1 + 1 = n by omega] at hP
    unfold sgU
    split <;> omega
end Go.Proofs.Ytpeknlablcgchaa
