import Derived.Test.YtddiccdfeckgaaaAe3
/- Layer 3: the document's sum of bytes (for the layers above: the names in a space of their own). -/
namespace Go.Proofs.Ytddiccdfeckgaaa.Ad
open Go.RowKit
set_option linter.unusedVariables false
theorem refsum_any (s : ByteArray) (w : World) (hs : s.size ≤ 1048576) :
    Calls Try.prog 33 #[.string s] w fun e w' => e = .returned (.int .i64 (moI 1 s)) ∧ w = w' := by
  go_enter Try.func33, Try.ntmps33
  go_wp2_with fail
  refine (refmore_any 1 s _ (by omega) (by omega) hs).mono ?_
  rintro e w' ⟨rfl, rfl⟩
  go_wp2
  go_ret
  exact ⟨rfl, rfl⟩
end Go.Proofs.Ytddiccdfeckgaaa.Ad
