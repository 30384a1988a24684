import Derived.Test.YtgflnkkhcapkmaaHza
import Derived.Test.YtgflnkkhcapkmaaHb
/- Layer 4: HuffFull. -/
namespace Go.Proofs.Ytgflnkkhcapkmaa
open Go.RowKit
set_option linter.unusedVariables false
theorem full_refused (zs : List Int) (a : Option Addr) (b o c n : Nat) (x : Int) (w : World) (hl : zs.length ≤ 9223372036854775807) (ha : Hid (Ints w zs a b o)) (he : Hid (errN zs = n)) (h0 : n = 1 ∨ n = 4) :
    Calls Try.prog 7 #[.slice a zs.length c, .int .u16 x] w fun e w' => e = .returned (.bool true) ∧ Below w.heap.size w w' := by
  have HN := Lib.hid (new_bad zs a b o c n w hl ha he.out h0)
  have q : ((n : Int) != 0) = true := by rw [bne_iff_ne]; omega
  clear he ha
  go_enter Try.func7, Try.ntmps7
  go_wp2_with (first
    | (go_at_call 9; refine HN.out.mono ?_; rintro e w1 ⟨rfl, hb1⟩)
    | (refine wl_alloc 27 _ zero27 rfl rfl ?_; intro W2 b2 B2 l2 k2)
    | (refine wl_store 27 17 size27 _ _ rfl rfl _ rfl _ rfl _ _ B2 (tabA_size _ _ _) (tabA_size _ _ _) (tabA_one _ _ _) ?_; intro W3 hB3 hT3)
    | (go_at_call 8; refine (awake_any _).mono ?_; rintro e w5 ⟨rfl, hb5⟩))
  go_ret
  exact ⟨rfl, bq_trans (hT3.below (bq_trans hb1 k2) (by have := hb1.size; omega)) hb5⟩
def MaRel (zs : List Int) (m i : Value) : Prop := ∃ k y : Nat, k ≤ zs.length ∧ i = .int .i64 k ∧ m = .int .i64 (y : Int) ∧ y = Hf.st (zs.take k) 16
set_option maxHeartbeats 2000000 in
theorem full_told (zs : List Int) (a : Option Addr) (b o c : Nat) (x : Int) (w : World) (h0 : 0 ≤ x) (h1 : x ≤ 65535) (ha : Hid (Ints w zs a b o)) (he : Hid (errN zs = 0)) :
    Calls Try.prog 7 #[.slice a zs.length c, .int .u16 x] w fun e w' => e = .returned (.bool true) ∧ Below w.heap.size w w' := by
  obtain ⟨hl, hR, hT⟩ := errN_ok he.out
  have HN := Lib.hid (new_ok zs a b o c w ha he.out)
  have HIN := Lib.hid hR
  have HTB := Lib.hid hT
  clear he hR hT
  go_enter Try.func7, Try.ntmps7
  go_upto_region 4 with (first
    | (go_at_call 9; refine HN.out.mono ?_; rintro e w1 ⟨b1, l1, hb1, rfl, hbel1⟩)
    | (refine wl_alloc 27 _ zero27 rfl rfl ?_; intro W2 b2 B2 l2 k2)
    | (refine wl_store 27 17 size27 _ _ rfl rfl _ rfl _ rfl _ _ B2 (tabA_size _ _ _) (tabA_size _ _ _) (tabA_one _ _ _) ?_; intro W3 hB3 hT3))
  have z1 := hbel1.size
  have z2 := hb1.lt
  have C1 := hT3.blk (hb1.keep k2) (by omega)
  have K3 := hT3.below (bq_trans hbel1 k2) (by omega)
  have HK3 := Lib.hid K3
  have HA := Lib.hid (ha.out.keep K3)
  clear hT3 B2 l2 k2 hb1 K3 z1 z2 HN hbel1 l1 ha
  go_wp2_with fail
  go_loop [7, 23] (fun m i => MaRel zs m i) (fun _ i => zs.length - (intOf i).toNat)
  case atStart => exact ⟨0, 0, by omega, rfl, rfl, by rw [List.take_zero, Hf.st_nil]⟩
  case round =>
    obtain ⟨k, y, hk, rfl, rfl, hy⟩ := hrel
    have hyb := Hf.st_len (zs.take k) 16
    have htl : (zs.take k).length ≤ 320 := by rw [List.length_take]; omega
    rw [← hy] at hyb
    have hyb2 : y ≤ 320 := by omega
    have HY := Lib.hid hy
    clear hy htl hyb
    by_cases hlt : k < zs.length
    · obtain ⟨rfl, hz0, hz1, hcell⟩ := HA.out.at (bq_refl W3) k hlt
      have hst := Hf.st_take zs k 16 hlt
      have hri := HIN.out k hlt
      rw [← HY.out] at hst
      obtain ⟨z, hz⟩ : ∃ z, z = zs[k] := ⟨_, rfl⟩
      rw [← hz] at hcell hst hri
      clear hz hz0 hz1
      by_cases c1 : 0 < z
      · have HS : Hid (Hf.st (zs.take (k + 1)) 16 = y + 1) := Lib.hid (by rw [hst, if_pos (by omega)])
        clear hst
        go_wp2
        go_round
        case rel => exact ⟨k + 1, y + 1, by omega, by go_num, by go_num, HS.out.symm⟩
        case measure => simp [intOf]; omega
      · have HS : Hid (Hf.st (zs.take (k + 1)) 16 = y) := Lib.hid (by rw [hst, if_neg (by omega)]; rfl)
        clear hst
        go_wp2
        go_round
        case rel => exact ⟨k + 1, y, by omega, by go_num, rfl, HS.out.symm⟩
        case measure => simp [intOf]; omega
    · obtain rfl : k = zs.length := by omega
      have hst : y = Hf.st zs 16 := by rw [HY.out, List.take_length]
      obtain ⟨l, hl2, hlA⟩ : ∃ l : List UInt8, l.length = 2 ∧ #[Value.int .u8 (x % 256), Value.int .u8 (x / 256)] = byA l := by
        refine ⟨[UInt8.ofNat (x % 256).toNat, UInt8.ofNat (x / 256).toNat], rfl, ?_⟩
        have e1 := byte_of (x % 256) (by omega) (by omega)
        have e2 := byte_of (x / 256) (by omega) (by omega)
        unfold byA
        simp only [List.map_cons, List.map_nil, e1, e2]
      have hconv := blk_str (blk_new W3 (byA l) 5) 2
      rw [hl2, ← hlA] at hconv
      have hs2 : (bs l).size = 2 := by rw [bs_size, hl2]
      have HX := next_any zs (bs l) 0 b1 (W3.alloc (.cells #[Value.int .u8 (x % 256), Value.int .u8 (x / 256)] 5)) (by omega) (by omega) hl (C1.alloc _)
      have HW := Lib.hid (bq_trans HK3.out (bq_alloc (bq_refl W3) (.cells #[Value.int .u8 (x % 256), Value.int .u8 (x / 256)] 5)))
      have hbit : ∀ m, m < 15 → ∃ v, bt (bs l) (((0 : Int).toNat) + m) = some v ∧ v < 2 := fun m hm => ⟨_, bt_some (bs l) _ (by rw [hs2]; simp; omega), btv_lt _ _⟩
      have HAK := Lib.hid (fun W (h : Below (W3.alloc (.cells #[Value.int .u8 (x % 256), Value.int .u8 (x / 256)] 5)).heap.size (W3.alloc (.cells #[Value.int .u8 (x % 256), Value.int .u8 (x / 256)] 5)) W) => HA.out.at (w' := W) (bq_trans (bq_alloc (bq_refl W3) _) h))
      by_cases c2 : 2 ≤ y
      · have d2 : decide ((y : Int) < 2) = false := by simp; omega
        obtain ⟨sy, L, hs, hnx, hzs, hL⟩ := Hf.nx_full zs (fun m => bt (bs l) (((0 : Int).toNat) + m)) (Hf.full_of_many HTB.out (by omega)) hbit
        have hr : nxR zs (bs l) 0 = .tuple #[.int .i64 (sy : Int), .int .i64 (L : Int), .int .i64 0] := by
          unfold nxR
          rw [if_neg (by omega), hnx, nxV_0]
          simp
        rw [hr] at HX
        have HX2 := Lib.hid HX
        have HZL := Lib.hid hzs
        have hL15 : L ≤ 15 := by have := (HIN.out sy hs).2; omega
        clear HX hr hnx hbit hst HY c2 hlA hs2 hl2 HA HK3 C1 hzs
        go_upto_region 12 with (first
          | (refine wl_load 27 17 _ Try.underlying27 rfl size27 _ rfl rfl _ rfl _ _ hB3 (tabA_size _ _ _) ?_)
          | (go_at_call 13; refine HX2.out.mono ?_; rintro e w6 ⟨rfl, hb6⟩))
        obtain ⟨rfl, _, _, hcs⟩ := HAK.out w6 hb6 sy hs
        rw [HZL.out] at hcs
        have HW6 := Lib.hid (bq_trans HW.out hb6)
        clear hb6 HW HAK hconv HX2 hB3
        go_wp2_with (go_at_call 8; refine (awake_any _).mono ?_; rintro e w7 ⟨rfl, hb7⟩)
        go_ret
        exact ⟨rfl, bq_trans HW6.out hb7⟩
      · have d2 : decide ((y : Int) < 2) = true := by simp; omega
        have hfew := Hf.nx_few zs HTB.out (fun m => bt (bs l) (((0 : Int).toNat) + m)) (by omega) (by obtain ⟨v, hv, _⟩ := hbit 0 (by omega); exact ⟨v, hv⟩)
        obtain ⟨A, B, C, hr, hC⟩ : ∃ A B C : Int, nxR zs (bs l) 0 = .tuple #[.int .i64 A, .int .i64 B, .int .i64 C] ∧ (C = 0 ∨ C = 4) := by
          unfold nxR
          rw [if_neg (by omega)]
          refine ⟨_, _, _, rfl, ?_⟩
          rcases hfew with h | h
          · left; rw [h]; rfl
          · right; rw [h]; rfl
        rw [hr] at HX
        have HX2 := Lib.hid HX
        clear HX hr hfew hbit hst HY c2 hlA hs2 hl2 HA HK3 C1 HAK
        rcases hC with rfl | rfl
        all_goals
          go_wp2_with (first
            | (refine wl_load 27 17 _ Try.underlying27 rfl size27 _ rfl rfl _ rfl _ _ hB3 (tabA_size _ _ _) ?_)
            | (go_at_call 13; refine HX2.out.mono ?_; rintro e w6 ⟨rfl, hb6⟩)
            | (go_at_call 8; refine (awake_any _).mono ?_; rintro e w7 ⟨rfl, hb7⟩))
          go_ret
          exact ⟨rfl, bq_trans (bq_trans HW.out hb6) hb7⟩
theorem full_all (zs : List Int) (a : Option Addr) (b o c : Nat) (x : Int) (w : World) (hl : zs.length ≤ 9223372036854775807) (h0 : 0 ≤ x) (h1 : x ≤ 65535) (ha : Ints w zs a b o) :
    Calls Try.prog 7 #[.slice a zs.length c, .int .u16 x] w fun e w' => e = .returned (.bool true) ∧ Below w.heap.size w w' := by
  rcases errN_cases zs with e | e | e
  · exact full_told zs a b o c x w h0 h1 (Lib.hid ha) (Lib.hid e)
  · exact full_refused zs a b o c 1 x w hl (Lib.hid ha) (Lib.hid e) (Or.inl rfl)
  · exact full_refused zs a b o c 4 x w hl (Lib.hid ha) (Lib.hid e) (Or.inr rfl)
theorem full_nil (x : Int) (w : World) (h0 : 0 ≤ x) (h1 : x ≤ 65535) : Calls Try.prog 7 #[.slice none 0 0, .int .u16 x] w fun e w' => e = .returned (.bool true) ∧ Below w.heap.size w w' :=
  full_all [] none 0 0 0 x w (by simp) h0 h1 (ints_nil w)
theorem full_cells (x : Int) (zs : List Int) (a : Addr) (len cap : Nat) (w : World) (h0 : 0 ≤ x) (h1 : x ≤ 65535) (hl : len ≤ cap) (hm : cap ≤ maxLen) (hz : zs.length = cap) (hc : ∀ i, i < zs.length → w.cell? (a.add i) = some (.int .i64 (zs.getD i 0))) (hw : ∀ n ∈ zs, (Lit.int .i64 n).wf = true) :
    Calls Try.prog 7 #[.slice (some a) len cap, .int .u16 x] w fun e w' => e = .returned (.bool true) ∧ Below w.heap.size w w' := by
  have hm2 : cap ≤ 9223372036854775807 := hm
  obtain ⟨b, o, hlt, hi⟩ := ints_arg zs a len cap w hl hz hc hw
  have h := full_all (zs.take len) (some a) b o cap x w (by omega) h0 h1 hi
  rw [hlt] at h
  exact h
end Go.Proofs.Ytgflnkkhcapkmaa
