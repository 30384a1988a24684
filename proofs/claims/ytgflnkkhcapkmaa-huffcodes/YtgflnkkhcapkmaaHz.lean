import Derived.Test.YtgflnkkhcapkmaaHy
/- Layer 4: HuffCodes, HuffReads. -/
namespace Go.Proofs.Ytgflnkkhcapkmaa
open Go.RowKit
set_option linter.unusedVariables false

theorem codes_many (n : Nat) (a : Option Addr) (c : Nat) (w : World) (hl : 400 < n) (hm : n ≤ 9223372036854775807) :
    Calls Try.prog 3 #[.slice a n c] w fun e w' => e = .returned (.bool true) ∧ Below w.heap.size w w' := by
  have p1 : decide (400 < (n : Int)) = true := by simp; omega
  go_enter Try.func3, Try.ntmps3
  go_wp2_with (go_at_call 8; refine (awake_any _).mono ?_; rintro e w3 ⟨rfl, hb3⟩)
  go_ret
  exact ⟨rfl, by assumption⟩
set_option maxHeartbeats 1000000 in
theorem codes_refused (zs : List Int) (a : Option Addr) (b o c n : Nat) (w : World) (hl : zs.length ≤ 400) (ha : Hid (Ints w zs a b o)) (he : Hid (errN zs = n)) (h0 : n = 1 ∨ n = 4) :
    Calls Try.prog 3 #[.slice a zs.length c] w fun e w' => e = .returned (.bool true) ∧ Below w.heap.size w w' := by
  have p1 : decide (400 < (zs.length : Int)) = false := by simp; omega
  have HN := Lib.hid (new_bad zs a b o c n w (by omega) ha he.out h0)
  have HC := Lib.hid (fun W (h : Below w.heap.size w W) => codes_bad zs a b o c n W (by omega) (Lib.hid (ha.out.keep h)) he.out h0)
  have HR := fun W (h : Below w.heap.size w W) => err_any zs a b o c W (by omega) (Lib.hid (ha.out.keep h))
  rw [he.out] at HR
  have HR2 := Lib.hid HR
  have q : ((n : Int) != 0) = true := by rw [bne_iff_ne]; omega
  clear HR he ha
  go_enter Try.func3, Try.ntmps3
  go_upto_region 4 with (first
    | (go_at_call 9; refine HN.out.mono ?_; rintro e w1 ⟨rfl, hb1⟩)
    | (refine wl_alloc 27 _ zero27 rfl rfl ?_; intro W2 b2 B2 l2 k2)
    | (refine wl_store 27 17 size27 _ _ rfl rfl _ rfl _ rfl _ _ B2 (tabA_size _ _ _) (tabA_size _ _ _) (tabA_one _ _ _) ?_; intro W3 hB3 hT3))
  have z1 := hb1.size
  have K3 := hT3.below (bq_trans hb1 k2) (by omega)
  have HK3 := Lib.hid K3
  clear hT3 B2 l2 k2 hb1 hB3 K3 z1
  go_wp2_with (first
    | (go_at_call 10; refine (HC.out _ HK3.out).mono ?_; rintro e w4 ⟨rfl, hb4⟩; have HK4 := Lib.hid (bq_trans HK3.out hb4))
    | (go_at_call 11; refine (HR2.out _ HK4.out).mono ?_; rintro e w' ⟨rfl, rfl⟩)
    | (go_at_call 8; refine (awake_any _).mono ?_; rintro e w5 ⟨rfl, hb5⟩))
  go_ret
  exact ⟨rfl, bq_trans HK4.out hb5⟩
def LoRel (w : World) (b1 b2 n : Nat) (cs : Array Value) (i : Value) (wr : World) : Prop := ∃ k : Nat, k ≤ n ∧ i = .int .i64 k ∧ Blk wr b1 cs 3 ∧ Blk wr b2 cs 3 ∧ Below w.heap.size w wr
set_option maxHeartbeats 2000000 in
theorem codes_told (zs : List Int) (a : Option Addr) (b o c : Nat) (w : World) (ha : Hid (Ints w zs a b o)) (he : Hid (errN zs = 0)) :
    Calls Try.prog 3 #[.slice a zs.length c] w fun e w' => e = .returned (.bool true) ∧ Below w.heap.size w w' := by
  obtain ⟨hl, hR, hT⟩ := errN_ok he.out
  have p1 : decide (400 < (zs.length : Int)) = false := by simp; omega
  have HN := Lib.hid (new_ok zs a b o c w ha he.out)
  have HC := Lib.hid (fun W (h : Below w.heap.size w W) => codes_ok zs a b o c W (Lib.hid (ha.out.keep h)) he.out)
  have HM := Lib.hid (fun W (h : Below w.heap.size w W) => rcodes_any zs a b o c W hl (Lib.hid hR) (Lib.hid (ha.out.keep h)))
  have HR := fun W (h : Below w.heap.size w W) => err_any zs a b o c W (by omega) (Lib.hid (ha.out.keep h))
  rw [he.out] at HR
  have HR2 := Lib.hid HR
  clear HR he ha hR hT
  go_enter Try.func3, Try.ntmps3
  go_upto_region 4 with (first
    | (go_at_call 9; refine HN.out.mono ?_; rintro e w1 ⟨b1, l1, hb1, rfl, hbel1⟩)
    | (refine wl_alloc 27 _ zero27 rfl rfl ?_; intro W2 b2 B2 l2 k2)
    | (refine wl_store 27 17 size27 _ _ rfl rfl _ rfl _ rfl _ _ B2 (tabA_size _ _ _) (tabA_size _ _ _) (tabA_one _ _ _) ?_; intro W3 hB3 hT3))
  have z1 := hbel1.size
  have K3 := hT3.below (bq_trans hbel1 k2) (by omega)
  have HK3 := Lib.hid K3
  clear hT3 B2 l2 k2 hb1 hB3 K3 z1 HN hbel1 l1
  go_wp2_with (first
    | (go_at_call 10; refine (HC.out _ HK3.out).mono ?_; rintro e w4 ⟨b4, l4, hb4, rfl, hbel4⟩; have HK4 := Lib.hid (bq_trans HK3.out hbel4))
    | (go_at_call 11; refine (HR2.out _ HK4.out).mono ?_; rintro e w' ⟨rfl, rfl⟩)
    | (go_at_call 12; refine (HM.out _ HK4.out).mono ?_; rintro e w5 ⟨b5, l5, hb5, rfl, hbel5⟩))
  have HK5 := Lib.hid (bq_trans HK4.out hbel5)
  have C4 := hb4.keep hbel5
  clear HK3 HK4 HC HM HR2 hbel4 hbel5 hb4 l4 l5
  obtain ⟨cs, hcs⟩ : ∃ cs, cs = intA (Hf.cd zs) zs.length := ⟨_, rfl⟩
  rw [← hcs] at C4 hb5
  have HCS := Lib.hid hcs
  clear hcs
  go_loopw [51] (fun i wr => LoRel w b4 b5 zs.length cs i wr) (fun i _ => zs.length - (intOf i).toNat)
  case atStart => exact ⟨0, by omega, rfl, C4, hb5, HK5.out⟩
  case round =>
    clear C4 hb5 HK5
    obtain ⟨k, hk, rfl, h4, h5, hbel⟩ := hrel
    have HB := Lib.hid hbel
    clear hbel
    by_cases hlt : k < zs.length
    · have hat : cs[k]? = some (.int .i64 (Hf.cd zs k : Int)) := by rw [HCS.out]; exact intA_at _ _ k hlt
      have g4 := (h4.cell k).trans hat
      have g5 := (h5.cell k).trans hat
      generalize Hf.cd zs k = x at *
      clear hat
      go_wp2_with fail
      go_quiet (fail)
      go_wp2
      go_roundw
      case rel => exact ⟨k + 1, by omega, by go_num, h4.drewN _, h5.drewN _, bq_drewN HB.out _⟩
      case measure => simp [intOf]; omega
    · obtain rfl : k = zs.length := by omega
      go_wp2_with (go_at_call 8; refine (awake_any _).mono ?_; rintro e w6 ⟨rfl, hb6⟩)
      go_ret
      exact ⟨rfl, bq_trans HB.out hb6⟩
theorem codes_all (zs : List Int) (a : Option Addr) (b o c : Nat) (w : World) (hl : zs.length ≤ 9223372036854775807) (ha : Ints w zs a b o) :
    Calls Try.prog 3 #[.slice a zs.length c] w fun e w' => e = .returned (.bool true) ∧ Below w.heap.size w w' := by
  by_cases h : 400 < zs.length
  · exact codes_many zs.length a c w h hl
  · rcases errN_cases zs with e | e | e
    · exact codes_told zs a b o c w (Lib.hid ha) (Lib.hid e)
    · exact codes_refused zs a b o c 1 w (by omega) (Lib.hid ha) (Lib.hid e) (Or.inl rfl)
    · exact codes_refused zs a b o c 4 w (by omega) (Lib.hid ha) (Lib.hid e) (Or.inr rfl)
/-- an argument's slice, as the frame of a law hands it over -/
theorem ints_nil (w : World) : Ints w [] none 0 0 := ⟨Or.inl rfl, fun i h => by simp at h, fun i h => by simp at h⟩
theorem ints_arg (zs : List Int) (a : Addr) (len cap : Nat) (w : World) (hl : len ≤ cap) (hz : zs.length = cap) (hc : ∀ i, i < zs.length → w.cell? (a.add i) = some (.int .i64 (zs.getD i 0))) (hw : ∀ n ∈ zs, (Lit.int .i64 n).wf = true) :
    ∃ b o, (zs.take len).length = len ∧ Ints w (zs.take len) (some a) b o := by
  have hlt : (zs.take len).length = len := by rw [List.length_take]; omega
  by_cases h0 : len = 0
  · subst h0
    exact ⟨0, 0, rfl, Or.inl rfl, fun i h => by simp at h, fun i h => by simp at h⟩
  · obtain ⟨b, o, rfl, hc2⟩ := ints_at hc (by omega)
    refine ⟨b, o, hlt, Or.inr rfl, fun i h => ?_, fun i h => ?_⟩
    · rw [List.getElem_take]
      exact bd64 (hw _ (List.getElem_mem _))
    · rw [hlt] at h
      rw [hc2 i (by omega), List.getElem_take, List.getD_eq_getElem?_getD, List.getElem?_eq_getElem (by omega)]
      rfl
theorem codes_nil (w : World) : Calls Try.prog 3 #[.slice none 0 0] w fun e w' => e = .returned (.bool true) ∧ Below w.heap.size w w' :=
  codes_all [] none 0 0 0 w (by simp) (ints_nil w)
theorem codes_cells (zs : List Int) (a : Addr) (len cap : Nat) (w : World) (hl : len ≤ cap) (hm : cap ≤ maxLen) (hz : zs.length = cap) (hc : ∀ i, i < zs.length → w.cell? (a.add i) = some (.int .i64 (zs.getD i 0))) (hw : ∀ n ∈ zs, (Lit.int .i64 n).wf = true) :
    Calls Try.prog 3 #[.slice (some a) len cap] w fun e w' => e = .returned (.bool true) ∧ Below w.heap.size w w' := by
  have hm2 : cap ≤ 9223372036854775807 := hm
  obtain ⟨b, o, hlt, hi⟩ := ints_arg zs a len cap w hl hz hc hw
  have h := codes_all (zs.take len) (some a) b o cap w (by omega) hi
  rw [hlt] at h
  exact h
end Go.Proofs.Ytgflnkkhcapkmaa
