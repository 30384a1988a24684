import Derived.Test.YtcfidibkihkndaaA2
import Derived.Lib.BitFns
namespace Go.Proofs.Ytcfidibkihkndaa
open Go.RowKit

theorem tab_size : Lib.len8tab.size = 256 := by decide +kernel
theorem tab_all : ∀ j : Fin 256, (Lib.len8tab[j.val]'(by rw [tab_size]; exact j.isLt)).toNat = Lib.bitLen j.val := by decide +kernel
theorem tab_at (i : Nat) (h : i < Lib.len8tab.size) : (Lib.len8tab[i]'h).toNat = Lib.bitLen i := tab_all ⟨i, by rw [tab_size] at h; exact h⟩

theorem tab_close (k : Nat) (y : Int) (X : Nat) (h : y.toNat < Lib.len8tab.size) (hk : k ≤ 56) (e : Lib.bitLen X = k + Lib.bitLen y.toNat) :
    wrap64 ((k : Int) + wrap64 ((Lib.len8tab[y.toNat]'h).toNat : Int)) = (Lib.bitLen X : Int) := by
  have h8 : Lib.bitLen y.toNat ≤ 8 := Lib.bitLen_le8 ⟨y.toNat, by rw [tab_size] at h; exact h⟩
  rw [tab_at _ h, e]
  unfold wrap64
  omega

set_option maxHeartbeats 4000000 in
set_option maxRecDepth 100000 in
theorem len64_any (x : Int) (w : World) (h0 : 0 ≤ x) (h1 : x ≤ 18446744073709551615) :
    Calls Try.prog 42 #[.int .u64 x] w fun e w' => e = .returned (.int .i64 (Lib.bitLen x.toNat)) ∧ w = w' := by
  have hsz : (Lib.len8tab.size : Int) = 256 := by rw [tab_size]; rfl
  go_enter Try.func42, Try.ntmps42
  go_wp2
  all_goals (go_ret; refine ⟨ret_int ?_, rfl⟩)
  · exact tab_close 56 _ _ _ (by omega) (by rw [show (x / 4294967296 / 65536 / 256).toNat = x.toNat / 72057594037927936 from by omega]; exact Lib.bitLen_shift56 _ (by omega) (by omega))
  · exact tab_close 48 _ _ _ (by omega) (by rw [show (x / 4294967296 / 65536).toNat = x.toNat / 281474976710656 from by omega]; exact Lib.bitLen_shift48 _ (by omega) (by omega))
  · exact tab_close 40 _ _ _ (by omega) (by rw [show (x / 4294967296 / 256).toNat = x.toNat / 1099511627776 from by omega]; exact Lib.bitLen_shift40 _ (by omega) (by omega))
  · exact tab_close 32 _ _ _ (by omega) (by rw [show (x / 4294967296).toNat = x.toNat / 4294967296 from by omega]; exact Lib.bitLen_shift32 _ (by omega) (by omega))
  · exact tab_close 24 _ _ _ (by omega) (by rw [show (x / 65536 / 256).toNat = x.toNat / 16777216 from by omega]; exact Lib.bitLen_shift24 _ (by omega) (by omega))
  · exact tab_close 16 _ _ _ (by omega) (by rw [show (x / 65536).toNat = x.toNat / 65536 from by omega]; exact Lib.bitLen_shift16 _ (by omega) (by omega))
  · exact tab_close 8 _ _ _ (by omega) (by rw [show (x / 256).toNat = x.toNat / 256 from by omega]; exact Lib.bitLen_shift8 _ (by omega) (by omega))
  · have := tab_close 0 x x.toNat (by rw [tab_size]; omega) (by omega) (by omega)
    rw [← this]
    simp

theorem zeros64_any (x : Int) (w : World) (h0 : 0 ≤ x) (h1 : x ≤ 18446744073709551615) :
    Calls Try.prog 41 #[.int .u64 x] w fun e w' => e = .returned (.int .i64 (64 - (Lib.bitLen x.toNat : Int))) ∧ w = w' := by
  have hl : Lib.bitLen x.toNat ≤ 64 := Lib.bitLen_le _ 64 (by omega) (by omega)
  have C := Lib.hid (len64_any x w h0 h1)
  clear h0 h1
  go_enter Try.func41, Try.ntmps41
  go_wp2_with (go_at_call 42; refine C.out.mono ?_; rintro e w' ⟨rfl, rfl⟩)
  go_ret
  exact ⟨rfl, rfl⟩

end Go.Proofs.Ytcfidibkihkndaa
