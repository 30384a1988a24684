import Derived.Test.YtgflnkkhcapkmaaHz
/- Layer 4: HuffReads. -/
namespace Go.Proofs.Ytgflnkkhcapkmaa
open Go.RowKit
set_option linter.unusedVariables false

theorem nxR_form (zs : List Int) (s : ByteArray) (at_ : Int) : ∃ A B C : Int, nxR zs s at_ = .tuple #[.int .i64 A, .int .i64 B, .int .i64 C] := by
  unfold nxR
  split
  · exact ⟨_, _, _, rfl⟩
  · exact ⟨_, _, _, rfl⟩
theorem reads_many (n : Nat) (a : Option Addr) (c : Nat) (s : ByteArray) (at_ : Int) (w : World) (hl : 400 < n) (hm : n ≤ 9223372036854775807) :
    Calls Try.prog 4 #[.slice a n c, .string s, .int .i64 at_] w fun e w' => e = .returned (.bool true) ∧ Below w.heap.size w w' := by
  have p1 : decide (400 < (n : Int)) = true := by simp; omega
  go_enter Try.func4, Try.ntmps4
  go_wp2_with (go_at_call 8; refine (awake_any _).mono ?_; rintro e w3 ⟨rfl, hb3⟩)
  go_ret
  exact ⟨rfl, by assumption⟩
theorem reads_great (n : Nat) (a : Option Addr) (c : Nat) (s : ByteArray) (at_ : Int) (w : World) (hl : n ≤ 400) (hs : 1024 < s.size) (hm : s.size ≤ 9223372036854775807) :
    Calls Try.prog 4 #[.slice a n c, .string s, .int .i64 at_] w fun e w' => e = .returned (.bool true) ∧ Below w.heap.size w w' := by
  have p1 : decide (400 < (n : Int)) = false := by simp; omega
  have p2 : decide (1024 < (s.size : Int)) = true := by simp; omega
  go_enter Try.func4, Try.ntmps4
  go_wp2_with (go_at_call 8; refine (awake_any _).mono ?_; rintro e w3 ⟨rfl, hb3⟩)
  go_ret
  exact ⟨rfl, by assumption⟩
set_option maxHeartbeats 1000000 in
theorem reads_refused (zs : List Int) (a : Option Addr) (b o c n : Nat) (s : ByteArray) (at_ : Int) (w : World) (hl : zs.length ≤ 400) (hs : s.size ≤ 1024) (ha : Hid (Ints w zs a b o)) (he : Hid (errN zs = n)) (h0 : n = 1 ∨ n = 4) :
    Calls Try.prog 4 #[.slice a zs.length c, .string s, .int .i64 at_] w fun e w' => e = .returned (.bool true) ∧ Below w.heap.size w w' := by
  have p1 : decide (400 < (zs.length : Int)) = false := by simp; omega
  have p2 : decide (1024 < (s.size : Int)) = false := by simp; omega
  have HN := Lib.hid (new_bad zs a b o c n w (by omega) ha he.out h0)
  have HR := fun W (h : Below w.heap.size w W) => err_any zs a b o c W (by omega) (Lib.hid (ha.out.keep h))
  rw [he.out] at HR
  have HR2 := Lib.hid HR
  have q : ((n : Int) != 0) = true := by rw [bne_iff_ne]; omega
  clear HR he ha
  go_enter Try.func4, Try.ntmps4
  go_upto_region 4 with (first
    | (go_at_call 9; refine HN.out.mono ?_; rintro e w1 ⟨rfl, hb1⟩)
    | (refine wl_alloc 27 _ zero27 rfl rfl ?_; intro W2 b2 B2 l2 k2)
    | (refine wl_store 27 17 size27 _ _ rfl rfl _ rfl _ rfl _ _ B2 (tabA_size _ _ _) (tabA_size _ _ _) (tabA_one _ _ _) ?_; intro W3 hB3 hT3))
  have z1 := hb1.size
  have K3 := hT3.below (bq_trans hb1 k2) (by omega)
  have HK3 := Lib.hid K3
  clear hT3 B2 l2 k2 hb1 hB3 K3 z1
  go_wp2_with (first
    | (go_at_call 11; refine (HR2.out _ HK3.out).mono ?_; rintro e w' ⟨rfl, rfl⟩)
    | (go_at_call 8; refine (awake_any _).mono ?_; rintro e w5 ⟨rfl, hb5⟩))
  go_ret
  exact ⟨rfl, bq_trans HK3.out hb5⟩
set_option maxHeartbeats 1000000 in
theorem reads_told (zs : List Int) (a : Option Addr) (b o c : Nat) (s : ByteArray) (at_ : Int) (w : World) (hs : s.size ≤ 1024) (h1 : at_ ≤ 9223372036854775807) (ha : Hid (Ints w zs a b o)) (he : Hid (errN zs = 0)) :
    Calls Try.prog 4 #[.slice a zs.length c, .string s, .int .i64 at_] w fun e w' => e = .returned (.bool true) ∧ Below w.heap.size w w' := by
  obtain ⟨hl, hR, hT⟩ := errN_ok he.out
  have p1 : decide (400 < (zs.length : Int)) = false := by simp; omega
  have p2 : decide (1024 < (s.size : Int)) = false := by simp; omega
  obtain ⟨A, B, C, hnx⟩ := nxR_form zs s at_
  have HN := Lib.hid (new_ok zs a b o c w ha he.out)
  have HX := fun b W (h : Blk W b (intA (Hf.sy zs zs.length) (Hf.st zs 16)) 3) => next_any zs s at_ b W (by omega) h1 hl h
  have HY := fun W (h : Below w.heap.size w W) => rnext_any zs a b o c s at_ W (by omega) h1 (Lib.hid (ha.out.keep h)) he
  rw [hnx] at HX HY
  have HX2 := Lib.hid HX
  have HY2 := Lib.hid HY
  clear HX HY he ha hR hT hnx
  go_enter Try.func4, Try.ntmps4
  go_upto_region 4 with (first
    | (go_at_call 9; refine HN.out.mono ?_; rintro e w1 ⟨b1, l1, hb1, rfl, hbel1⟩)
    | (refine wl_alloc 27 _ zero27 rfl rfl ?_; intro W2 b2 B2 l2 k2)
    | (refine wl_store 27 17 size27 _ _ rfl rfl _ rfl _ rfl _ _ B2 (tabA_size _ _ _) (tabA_size _ _ _) (tabA_one _ _ _) ?_; intro W3 hB3 hT3))
  have z1 := hbel1.size
  have z2 := hb1.lt
  have C1 := hT3.blk (hb1.keep k2) (by omega)
  have K3 := hT3.below (bq_trans hbel1 k2) (by omega)
  have HK3 := Lib.hid K3
  clear hT3 B2 l2 k2 hb1 K3 z1 z2 HN hbel1 l1
  go_wp2_with (first
    | (refine wl_load 27 17 _ Try.underlying27 rfl size27 _ rfl rfl _ rfl _ _ hB3 (tabA_size _ _ _) ?_)
    | (go_at_call 13; refine (HX2.out _ _ C1).mono ?_; rintro e w4 ⟨rfl, hb4⟩; have HK4 := Lib.hid (bq_trans HK3.out hb4))
    | (go_at_call 14; refine (HY2.out _ HK4.out).mono ?_; rintro e w5 ⟨rfl, hb5⟩)
    | (go_at_call 8; refine (awake_any _).mono ?_; rintro e w6 ⟨rfl, hb6⟩))
  go_ret
  exact ⟨rfl, bq_trans (bq_trans HK4.out hb5) hb6⟩
theorem reads_all (zs : List Int) (a : Option Addr) (b o c : Nat) (s : ByteArray) (at_ : Int) (w : World) (hl : zs.length ≤ 9223372036854775807) (hs : s.size ≤ maxLen) (h1 : at_ ≤ 9223372036854775807) (ha : Ints w zs a b o) :
    Calls Try.prog 4 #[.slice a zs.length c, .string s, .int .i64 at_] w fun e w' => e = .returned (.bool true) ∧ Below w.heap.size w w' := by
  unfold maxLen at hs
  by_cases h : 400 < zs.length
  · exact reads_many zs.length a c s at_ w h hl
  · by_cases h2 : 1024 < s.size
    · exact reads_great zs.length a c s at_ w (by omega) h2 (by omega)
    · rcases errN_cases zs with e | e | e
      · exact reads_told zs a b o c s at_ w (by omega) h1 (Lib.hid ha) (Lib.hid e)
      · exact reads_refused zs a b o c 1 s at_ w (by omega) (by omega) (Lib.hid ha) (Lib.hid e) (Or.inl rfl)
      · exact reads_refused zs a b o c 4 s at_ w (by omega) (by omega) (Lib.hid ha) (Lib.hid e) (Or.inr rfl)
theorem reads_nil (s : ByteArray) (at_ : Int) (w : World) (hs : s.size ≤ maxLen) (h1 : at_ ≤ 9223372036854775807) : Calls Try.prog 4 #[.slice none 0 0, .string s, .int .i64 at_] w fun e w' => e = .returned (.bool true) ∧ Below w.heap.size w w' :=
  reads_all [] none 0 0 0 s at_ w (by simp) hs h1 (ints_nil w)
theorem reads_cells (s : ByteArray) (at_ : Int) (zs : List Int) (a : Addr) (len cap : Nat) (w : World) (hs : s.size ≤ maxLen) (h1 : at_ ≤ 9223372036854775807) (hl : len ≤ cap) (hm : cap ≤ maxLen) (hz : zs.length = cap) (hc : ∀ i, i < zs.length → w.cell? (a.add i) = some (.int .i64 (zs.getD i 0))) (hw : ∀ n ∈ zs, (Lit.int .i64 n).wf = true) :
    Calls Try.prog 4 #[.slice (some a) len cap, .string s, .int .i64 at_] w fun e w' => e = .returned (.bool true) ∧ Below w.heap.size w w' := by
  have hm2 : cap ≤ 9223372036854775807 := hm
  obtain ⟨b, o, hlt, hi⟩ := ints_arg zs a len cap w hl hz hc hw
  have h := reads_all (zs.take len) (some a) b o cap s at_ w (by omega) hs h1 hi
  rw [hlt] at h
  exact h
end Go.Proofs.Ytgflnkkhcapkmaa
