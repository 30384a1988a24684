import Derived.Test.YtmimndgjjafdmaaAd5
import Derived.Laws.IdiomStrings
import Derived.Laws.MakeOwn
import Derived.OwnWalk
import Derived.Deep.RegionWith
import Derived.BigRegion
/- Layer 3: the walk of AdlerByte. -/
namespace Go.Proofs.Ytmimndgjjafdmaa
open Go.RowKit
set_option linter.unusedVariables false

def one (c : Nat) : ByteArray := ⟨#[UInt8.ofNat c]⟩
theorem str_one (g : Nat) (x : Nat) (hx : x < 256) (W : World) (h : W.cell? ⟨g, 0, none⟩ = some (.int .u8 (x : Int))) : (convert 30 9 (.slice (some ⟨g, 0, none⟩) 1 1)).run Try.prog W = .ok (.string (one x)) W := by
  have hl : ([UInt8.ofNat x] : List UInt8).length = 1 := rfl
  have := run_convert_bytes_back (P := Try.prog) W 30 9 5 ⟨g, 0, none⟩ 1 [UInt8.ofNat x] Try.underlying30 Try.underlying5 Try.underlying9 (fun j hj => by
    rw [hl] at hj
    obtain rfl : j = 0 := by omega
    have e : ([UInt8.ofNat x] : List UInt8)[0].toNat = x := by
      show (UInt8.ofNat x).toNat = x
      rw [UInt8.toNat_ofNat']
      omega
    rw [e, ← h]; rfl)
  exact this
set_option maxHeartbeats 1000000 in
theorem byte_core (c : Nat) (y z : Int) (s t : ByteArray) (w : World) (hc : c < 256) (hs2 : s.size ≤ 8192) (ht : t.size ≤ 1)
    (hconv : (convert 30 9 (.slice (some ⟨w.heap.size, 0, none⟩) 1 1)).run Try.prog (w.alloc (.cells #[.int .u8 (c : Int)] 5)).drew = .ok (.string t) (w.alloc (.cells #[.int .u8 (c : Int)] 5)).drew)
    (hq : (z == bits .or .i64 (wrap64 ((wrap64 (y / 65536 + (wrap64 (bits .and .i64 y 65535 + (c : Int))).tmod 65521)).tmod 65521 * 65536)) ((wrap64 (bits .and .i64 y 65535 + (c : Int))).tmod 65521)) = true)
    (E1 : Hid (∀ w, Calls Try.prog 9 #[.string s] w fun e w' => e = .returned (.int .i64 y) ∧ w = w'))
    (E2 : Hid (∀ w, Calls Try.prog 9 #[.string (s ++ t)] w fun e w' => e = .returned (.int .i64 z) ∧ w = w')) :
    Calls Try.prog 7 #[.string s, .int .u8 c] w fun e w' => e = .returned (.bool true) ∧ Below w.heap.size w w' := by
  go_enter Try.func7, Try.ntmps7
  go_wp2_with fail
  go_region_with (first | (go_at_call 9; ((with_reducible refine (E1.out _).mono ?_); rintro e w' ⟨rfl, rfl⟩)) | (go_at_call 9; ((with_reducible refine (E2.out _).mono ?_); rintro e w' ⟨rfl, rfl⟩)))
  all_goals
    go_wp2_with fail
    refine (awake_any _).mono ?_
    rintro e w' ⟨rfl, rfl⟩
    go_wp2
    go_ret
    exact ⟨rfl, bq_drew (bq_alloc (bq_refl w) _)⟩
theorem byte_sum (s : ByteArray) (c : Nat) (hc : c < 256) : moI 1 (s ++ one c) = bits .or .i64 (wrap64 ((wrap64 (moI 1 s / 65536 + (wrap64 (bits .and .i64 (moI 1 s) 65535 + (c : Int))).tmod 65521)).tmod 65521 * 65536)) ((wrap64 (bits .and .i64 (moI 1 s) 65535 + (c : Int))).tmod 65521) := by
  have e : (UInt8.ofNat c).toNat = c := by rw [UInt8.toNat_ofNat']; omega
  have p1 := A.pa_lt (A.lo 1) s.data.toList
  have p2 := A.pb_lt (A.lo 1) (A.hi 1) s.data.toList
  have s1 := A.pa_snoc (A.lo 1) s.data.toList (UInt8.ofNat c)
  have s2 := A.pb_snoc (A.lo 1) (A.hi 1) s.data.toList (UInt8.ofNat c)
  have p3 := A.pa_lt (A.lo 1) (s.data.toList ++ [UInt8.ofNat c])
  have p4 := A.pb_lt (A.lo 1) (A.hi 1) (s.data.toList ++ [UInt8.ofNat c])
  have ea : (s ++ one c).data.toList = s.data.toList ++ [UInt8.ofNat c] := by rw [ByteArray.data_append, Array.toList_append]; rfl
  rw [mo_lo, mo_hi, mo_parts 1 (s ++ one c), ea]
  rw [e] at s1
  generalize A.pa (A.lo 1) (s.data.toList ++ [UInt8.ofNat c]) = a' at *
  generalize A.pb (A.lo 1) (A.hi 1) (s.data.toList ++ [UInt8.ofNat c]) = b' at *
  generalize A.pa (A.lo 1) s.data.toList = a at *
  generalize A.pb (A.lo 1) (A.hi 1) s.data.toList = b at *
  have t1 : (wrap64 ((a : Int) + (c : Int))).tmod 65521 = (a' : Int) := by
    rw [i64_id _ (by omega) (by omega), Int.tmod_eq_emod_of_nonneg (by omega)]
    omega
  have t2 : (wrap64 ((b : Int) + (a' : Int))).tmod 65521 = (b' : Int) := by
    rw [i64_id _ (by omega) (by omega), Int.tmod_eq_emod_of_nonneg (by omega)]
    omega
  rw [t1, t2, i64_id ((b' : Int) * 65536) (by omega) (by omega), or16 _ _ (by omega) (by omega) (by omega) (by omega)]
  rfl
theorem adlerByte_walk (s : ByteArray) (c : Int) (w : World) (hs : s.size ≤ maxLen) (h0 : 0 ≤ c) (h1 : c ≤ 255) :
    Calls Try.prog 7 #[.string s, .int .u8 c] w fun e w' => e = .returned (.bool true) ∧ Below w.heap.size w w' := by
  have hs2 := hs
  unfold maxLen at hs2
  by_cases h : 8192 < s.size
  · go_enter Try.func7, Try.ntmps7
    go_wp2_with fail
    refine (awake_any _).mono ?_
    rintro e w' ⟨rfl, rfl⟩
    go_wp2
    go_ret
    exact ⟨rfl, bq_refl _⟩
  · obtain ⟨n, rfl⟩ := Int.eq_ofNat_of_zero_le h0
    have hz : (one n).size = 1 := rfl
    refine byte_core n _ _ s (one n) w (by omega) (by omega) (by omega) (str_one _ n (by omega) _ ?_) (beq_t (byte_sum s n (by omega))) (Lib.hid fun w => sum_any s w hs) (Lib.hid fun w => sum_any (s ++ one n) w ?_)
    · show (w.alloc (.cells #[.int .u8 (n : Int)] 5)).cell? ⟨w.heap.size, 0, none⟩ = _
      rw [World.cell?_alloc_new]; rfl
    · rw [app_size]; unfold maxLen; omega
end Go.Proofs.Ytmimndgjjafdmaa
