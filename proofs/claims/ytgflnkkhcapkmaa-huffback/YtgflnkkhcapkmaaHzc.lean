import Derived.Test.YtgflnkkhcapkmaaHzb
/- Layer 4: HuffBack, all ways but the last one. -/
namespace Go.Proofs.Ytgflnkkhcapkmaa
open Go.RowKit
set_option linter.unusedVariables false
set_option maxHeartbeats 2000000 in
set_option maxRecDepth 100000 in
theorem back_refused (zs : List Int) (a : Option Addr) (b o c m : Nat) (n : Int) (s : ByteArray) (w : World) (hl : zs.length ≤ 9223372036854775807) (ha : Hid (Ints w zs a b o)) (he : Hid (errN zs = m)) (h0 : m = 1 ∨ m = 4) :
    Calls Try.prog 6 #[.slice a zs.length c, .int .i64 n, .string s] w fun e w' => e = .returned (.bool true) ∧ Below w.heap.size w w' := by
  have HN := Lib.hid (new_bad zs a b o c m w hl ha he.out h0)
  have HC := Lib.hid (fun W (h : Below w.heap.size w W) => codes_bad zs a b o c m W hl (Lib.hid (ha.out.keep h)) he.out h0)
  have q : ((m : Int) != 0) = true := by rw [bne_iff_ne]; omega
  clear he ha
  go_enter Try.func6, Try.ntmps6
  go_upto_region 2 with (first
    | (go_at_call 9; refine HN.out.mono ?_; rintro e w1 ⟨rfl, hb1⟩)
    | (refine wl_alloc 27 _ zero27 rfl rfl ?_; intro W2 b2 B2 l2 k2)
    | (refine wl_store 27 17 size27 _ _ rfl rfl _ rfl _ rfl _ _ B2 (tabA_size _ _ _) (tabA_size _ _ _) (tabA_one _ _ _) ?_; intro W3 hB3 hT3))
  have HK3 := Lib.hid (hT3.below (bq_trans hb1 k2) (by have := hb1.size; omega))
  clear hT3 B2 l2 k2 hb1 hB3 HN
  go_wp2_with (first
    | (go_at_call 10; refine (HC.out _ HK3.out).mono ?_; rintro e w4 ⟨rfl, hb4⟩)
    | (go_at_call 8; refine (awake_any _).mono ?_; rintro e w5 ⟨rfl, hb5⟩))
  go_ret
  exact ⟨rfl, bq_trans (bq_trans HK3.out hb4) hb5⟩
set_option maxHeartbeats 2000000 in
set_option maxRecDepth 100000 in
theorem back_out (zs : List Int) (a : Option Addr) (b o c : Nat) (n : Int) (s : ByteArray) (w : World) (hs : s.size ≤ 9223372036854775807) (ha : Hid (Ints w zs a b o)) (he : Hid (errN zs = 0)) (h : n < 0 ∨ (zs.length : Int) ≤ n ∨ 100 < s.size) :
    Calls Try.prog 6 #[.slice a zs.length c, .int .i64 n, .string s] w fun e w' => e = .returned (.bool true) ∧ Below w.heap.size w w' := by
  obtain ⟨hl, hR, hT⟩ := errN_ok he.out
  have HN := Lib.hid (new_ok zs a b o c w ha he.out)
  have HC := Lib.hid (fun W (h : Below w.heap.size w W) => codes_ok zs a b o c W (Lib.hid (ha.out.keep h)) he.out)
  have hx : n < 0 ∨ (¬ n < 0 ∧ (zs.length : Int) ≤ n) ∨ (¬ n < 0 ∧ ¬ (zs.length : Int) ≤ n ∧ 100 < s.size) := by omega
  clear he ha hR hT h
  rcases hx with h | ⟨h, h2⟩ | ⟨h, h2, h3⟩
  all_goals
    go_enter Try.func6, Try.ntmps6
    go_upto_region 2 with (first
      | (go_at_call 9; refine HN.out.mono ?_; rintro e w1 ⟨b1, l1, hb1, rfl, hbel1⟩)
      | (refine wl_alloc 27 _ zero27 rfl rfl ?_; intro W2 b2 B2 l2 k2)
      | (refine wl_store 27 17 size27 _ _ rfl rfl _ rfl _ rfl _ _ B2 (tabA_size _ _ _) (tabA_size _ _ _) (tabA_one _ _ _) ?_; intro W3 hB3 hT3))
    have HK3 := Lib.hid (hT3.below (bq_trans hbel1 k2) (by have := hbel1.size; omega))
    clear hT3 B2 l2 k2 hb1 hB3 HN hbel1 l1
    go_wp2_with (first
      | (go_at_call 10; refine (HC.out _ HK3.out).mono ?_; rintro e w4 ⟨b4, l4, hb4, rfl, hbel4⟩)
      | (go_at_call 8; refine (awake_any _).mono ?_; rintro e w5 ⟨rfl, hb5⟩))
    go_ret
    exact ⟨rfl, bq_trans (bq_trans HK3.out hbel4) hb5⟩
set_option maxHeartbeats 2000000 in
set_option maxRecDepth 100000 in
theorem back_none (zs : List Int) (a : Option Addr) (b o c n : Nat) (s : ByteArray) (w : World) (hs : s.size ≤ 100) (ha : Hid (Ints w zs a b o)) (he : Hid (errN zs = 0)) (hn : n < zs.length) (hz : Hid (zs[n] = 0)) :
    Calls Try.prog 6 #[.slice a zs.length c, .int .i64 n, .string s] w fun e w' => e = .returned (.bool true) ∧ Below w.heap.size w w' := by
  obtain ⟨hl, hR, hT⟩ := errN_ok he.out
  have HN := Lib.hid (new_ok zs a b o c w ha he.out)
  have HC := Lib.hid (fun W (h : Below w.heap.size w W) => codes_ok zs a b o c W (Lib.hid (ha.out.keep h)) he.out)
  obtain ⟨rfl, _, _, _⟩ := ha.out.at (bq_refl w) n hn
  have HA := Lib.hid (fun W (h : Below w.heap.size w W) => (ha.out.at h n hn).2.2.2)
  rw [hz.out] at HA
  clear he ha hR hT hz
  go_enter Try.func6, Try.ntmps6
  go_upto_region 2 with (first
    | (go_at_call 9; refine HN.out.mono ?_; rintro e w1 ⟨b1, l1, hb1, rfl, hbel1⟩)
    | (refine wl_alloc 27 _ zero27 rfl rfl ?_; intro W2 b2 B2 l2 k2)
    | (refine wl_store 27 17 size27 _ _ rfl rfl _ rfl _ rfl _ _ B2 (tabA_size _ _ _) (tabA_size _ _ _) (tabA_one _ _ _) ?_; intro W3 hB3 hT3))
  have HK3 := Lib.hid (hT3.below (bq_trans hbel1 k2) (by have := hbel1.size; omega))
  clear hT3 B2 l2 k2 hb1 hB3 HN hbel1 l1
  go_wp2_with (first
    | (go_at_call 10; refine (HC.out _ HK3.out).mono ?_; rintro e w4 ⟨b4, l4, hb4, rfl, hbel4⟩; have hcell := HA.out w4 (bq_trans HK3.out hbel4))
    | (go_at_call 8; refine (awake_any _).mono ?_; rintro e w5 ⟨rfl, hb5⟩))
  go_ret
  exact ⟨rfl, bq_trans (bq_trans HK3.out hbel4) hb5⟩
end Go.Proofs.Ytgflnkkhcapkmaa
