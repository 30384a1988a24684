import Derived.Test.YtddiccdfeckgaaaQJ
/- Layer 6: bytes packed, plain: the bits one behind the other. -/
namespace Go.Proofs.Ytddiccdfeckgaaa
open Go.RowKit
set_option maxRecDepth 100000
set_option linter.unusedVariables false
namespace D
theorem run_ok (s : ByteArray) (a : Nat) (ha : a < s.size) : (run s a).1 = 0 ∧ (run s a).2 = 0 ∨ 3 ≤ (run s a).1 ∧ (run s a).1 ≤ 258 ∧ 1 ≤ (run s a).2 ∧ (run s a).2 ≤ a ∧ (run s a).2 ≤ 32768 ∧ a + (run s a).1 ≤ s.size ∧ ∀ i, i < (run s a).1 → eqn s a (run s a).2 i := by
  unfold run cut3
  have hf := best_far s a (min a 32768)
  have hm := best_mt s a (min a 32768)
  split
  · exact Or.inl ⟨rfl, rfl⟩
  · rename_i h3
    have hmt : mt s a (best s a (min a 32768)).2 = (best s a (min a 32768)).1 := by
      rcases hm with h0 | h0
      · omega
      · exact h0
    have hsz := mt_size s a (best s a (min a 32768)).2 ha
    exact Or.inr ⟨by omega, hf.2.2, by omega, by omega, by omega, by omega, fun i hi => mt_all s a _ (by omega)⟩
/-- what stands for a place: its code, or that of its run -/
def tok (s : ByteArray) (a : Nat) : List Nat := if (run s a).1 = 0 then sc (at8 s a) else lb (run s a).1 ++ db (run s a).2
def stp (s : ByteArray) (a : Nat) : Nat := if (run s a).1 = 0 then 1 else (run s a).1
def toks (s : ByteArray) : Nat → Nat → List Nat
  | 0, _ => []
  | f + 1, a => if a < s.size then tok s a ++ toks s f (a + stp s a) else []
theorem stp_pos (s : ByteArray) (a : Nat) : 1 ≤ stp s a := by unfold stp; split <;> omega
theorem stp_le (s : ByteArray) (a : Nat) (ha : a < s.size) : a + stp s a ≤ s.size := by
  unfold stp
  split
  · omega
  · rcases run_ok s a ha with h | h <;> omega
theorem lb_len (n : Nat) (h3 : 3 ≤ n) (h9 : n ≤ 258) : (lb n).length ≤ 14 ∧ (n = 3 → (lb n).length ≤ 7) := by
  unfold lb
  split
  · have := sc_len 285
    exact ⟨by omega, fun h => by omega⟩
  · have h1 := sc_len (257 + sS (n - 3) 3)
    have h2 := sN_le (n - 3) 3 5 (by omega) (by omega)
    rw [List.length_append, nb_len]
    refine ⟨by omega, fun h => ?_⟩
    subst h
    decide +kernel
theorem db_len (d : Nat) (h1 : 1 ≤ d) (h9 : d ≤ 32768) : (db d).length ≤ 18 := by
  have h2 := sN_le (d - 1) 2 13 (by omega) (by omega)
  unfold db
  rw [List.length_append, hb_len, nb_len]
  omega
theorem tok_len (s : ByteArray) (a : Nat) (ha : a < s.size) : (tok s a).length ≤ 9 * stp s a := by
  unfold tok stp
  split
  · exact sc_len _
  · rcases run_ok s a ha with h | ⟨h3, h258, h1, _, h9, _⟩
    · omega
    · have := lb_len (run s a).1 h3 h258
      have := db_len (run s a).2 h1 h9
      rw [List.length_append]
      by_cases e : (run s a).1 = 3
      · have := (lb_len (run s a).1 h3 h258).2 e
        omega
      · omega
/-- all the bits, the end among them -/
def allB (s : ByteArray) : List Nat := [1, 1, 0] ++ toks s s.size 0 ++ sc 256
def pack (s : ByteArray) : List UInt8 := bytesOf (allB s ++ fl (allB s))
theorem toks_end (s : ByteArray) (f a : Nat) (h : s.size ≤ a) : toks s f a = [] := by
  cases f with
  | zero => rfl
  | succ f => rw [toks, if_neg (by omega)]
theorem toks_len (s : ByteArray) : ∀ f a, a ≤ s.size → (toks s f a).length ≤ 9 * (s.size - a)
  | 0, a, h => Nat.zero_le _
  | f + 1, a, h => by
    rw [toks]
    split
    · rename_i ha
      have h1 := tok_len s a ha
      have h2 := stp_le s a ha
      have h3 := toks_len s f (a + stp s a) h2
      rw [List.length_append]
      omega
    · exact Nat.zero_le _
end D
end Go.Proofs.Ytddiccdfeckgaaa
