import Derived.Test.YtgflnkkhcapkmaaHzd
/- Layer 4: HuffBack, whole. -/
namespace Go.Proofs.Ytgflnkkhcapkmaa
open Go.RowKit
set_option linter.unusedVariables false
theorem back_all (zs : List Int) (a : Option Addr) (b o c : Nat) (n : Int) (s : ByteArray) (w : World) (hl : zs.length ≤ 9223372036854775807) (hs : s.size ≤ maxLen) (ha : Ints w zs a b o) :
    Calls Try.prog 6 #[.slice a zs.length c, .int .i64 n, .string s] w fun e w' => e = .returned (.bool true) ∧ Below w.heap.size w w' := by
  unfold maxLen at hs
  rcases errN_cases zs with e | e | e
  · by_cases h : n < 0 ∨ (zs.length : Int) ≤ n ∨ 100 < s.size
    · exact back_out zs a b o c n s w (by omega) (Lib.hid ha) (Lib.hid e) h
    · obtain ⟨m, rfl⟩ : ∃ m : Nat, n = (m : Int) := ⟨n.toNat, by omega⟩
      have hm : m < zs.length := by omega
      have hr := (errN_ok e).2.1 m hm
      by_cases h0 : zs[m] = 0
      · exact back_none zs a b o c m s w (by omega) (Lib.hid ha) (Lib.hid e) hm (Lib.hid h0)
      · exact back_told zs a b o c m s w (by omega) (Lib.hid ha) (Lib.hid e) hm (Lib.hid (by omega))
  · exact back_refused zs a b o c 1 n s w hl (Lib.hid ha) (Lib.hid e) (Or.inl rfl)
  · exact back_refused zs a b o c 4 n s w hl (Lib.hid ha) (Lib.hid e) (Or.inr rfl)
theorem back_nil (n : Int) (s : ByteArray) (w : World) (hs : s.size ≤ maxLen) : Calls Try.prog 6 #[.slice none 0 0, .int .i64 n, .string s] w fun e w' => e = .returned (.bool true) ∧ Below w.heap.size w w' :=
  back_all [] none 0 0 0 n s w (by simp) hs (ints_nil w)
theorem back_cells (n : Int) (s : ByteArray) (zs : List Int) (a : Addr) (len cap : Nat) (w : World) (hs : s.size ≤ maxLen) (hl : len ≤ cap) (hm : cap ≤ maxLen) (hz : zs.length = cap) (hc : ∀ i, i < zs.length → w.cell? (a.add i) = some (.int .i64 (zs.getD i 0))) (hw : ∀ n ∈ zs, (Lit.int .i64 n).wf = true) :
    Calls Try.prog 6 #[.slice (some a) len cap, .int .i64 n, .string s] w fun e w' => e = .returned (.bool true) ∧ Below w.heap.size w w' := by
  have hm2 : cap ≤ 9223372036854775807 := hm
  obtain ⟨b, o, hlt, hi⟩ := ints_arg zs a len cap w hl hz hc hw
  have h := back_all (zs.take len) (some a) b o cap n s w (by omega) hs hi
  rw [hlt] at h
  exact h
end Go.Proofs.Ytgflnkkhcapkmaa
