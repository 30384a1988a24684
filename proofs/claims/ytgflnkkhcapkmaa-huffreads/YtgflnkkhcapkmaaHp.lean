import Derived.Test.YtgflnkkhcapkmaaHo
/- Layer 4: how many codes of each length there are, or the error. -/
namespace Go.Proofs.Ytgflnkkhcapkmaa
open Go.RowKit
set_option linter.unusedVariables false

/-- numbers that a slice reads as -/
def Ints (w : World) (zs : List Int) (a : Option Addr) (b o : Nat) : Prop :=
  (zs.length = 0 ∨ a = some ⟨b, o, none⟩) ∧ (∀ i (h : i < zs.length), -9223372036854775808 ≤ zs[i] ∧ zs[i] ≤ 9223372036854775807) ∧ ∀ i (h : i < zs.length), w.cell? ⟨b, o + i, none⟩ = some (.int .i64 zs[i])
theorem Ints.lt {w : World} {zs : List Int} {a : Option Addr} {b o : Nat} (h : Ints w zs a b o) (h0 : 0 < zs.length) : b < w.heap.size := block_lt_of_cell (h.2.2 0 h0)
theorem Ints.keep {w w' : World} {zs : List Int} {a : Option Addr} {b o : Nat} (h : Ints w zs a b o) (hb : Below w.heap.size w w') : Ints w' zs a b o :=
  ⟨h.1, h.2.1, fun i hi => by rw [hb.cell (p := ⟨b, o + i, none⟩) (h.lt (by omega))]; exact h.2.2 i hi⟩
theorem Ints.at {w w' : World} {zs : List Int} {a : Option Addr} {b o : Nat} (h : Ints w zs a b o) (hb : Below w.heap.size w w') (i : Nat) (hi : i < zs.length) : a = some ⟨b, o, none⟩ ∧ -9223372036854775808 ≤ zs[i] ∧ zs[i] ≤ 9223372036854775807 ∧ w'.cell? ⟨b, o + i, none⟩ = some (.int .i64 zs[i]) :=
  ⟨h.1.resolve_left (by omega), (h.2.1 i hi).1, (h.2.1 i hi).2, (h.keep hb).2.2 i hi⟩

/-- the error's number -/
def errN (zs : List Int) : Nat := if 320 < zs.length then 1 else if zs.any (fun z => z < 0 || 15 < z) then 1 else if Hf.tabB zs then 0 else 4
theorem errN_long (zs : List Int) (h : 320 < zs.length) : errN zs = 1 := by unfold errN; rw [if_pos h]
theorem errN_bad (zs : List Int) (h : zs.length ≤ 320) (i : Nat) (hi : i < zs.length) (hb : zs[i] < 0 ∨ 15 < zs[i]) : errN zs = 1 := by
  unfold errN
  rw [if_neg (by omega), if_pos]
  rw [List.any_eq_true]
  exact ⟨zs[i], List.getElem_mem hi, by simpa using hb⟩
theorem any_false (zs : List Int) (h : Hf.inR zs) : zs.any (fun z => z < 0 || 15 < z) = false := by
  rw [List.any_eq_false]
  intro z hz
  obtain ⟨i, hi, rfl⟩ := List.getElem_of_mem hz
  have := h i hi
  simp
  omega
theorem errN_tab (zs : List Int) (h : zs.length ≤ 320) (hr : Hf.inR zs) : errN zs = if Hf.tabB zs then 0 else 4 := by
  unfold errN
  rw [if_neg (by omega), if_neg (by rw [any_false zs hr]; simp)]
theorem errN_ok {zs : List Int} (h : errN zs = 0) : zs.length ≤ 320 ∧ Hf.inR zs ∧ Hf.tabB zs = true := by
  unfold errN at h
  by_cases h1 : 320 < zs.length
  · rw [if_pos h1] at h; omega
  · rw [if_neg h1] at h
    by_cases h2 : zs.any (fun z => z < 0 || 15 < z) = true
    · rw [if_pos h2] at h; omega
    · rw [if_neg h2] at h
      refine ⟨by omega, ?_, ?_⟩
      · intro i hi
        have h3 : zs.any (fun z => z < 0 || 15 < z) = false := by simpa using h2
        rw [List.any_eq_false] at h3
        have := h3 zs[i] (List.getElem_mem hi)
        simp at this
        omega
      · by_cases h3 : Hf.tabB zs = true
        · exact h3
        · rw [if_neg h3] at h; omega
theorem errN_cases (zs : List Int) : errN zs = 0 ∨ errN zs = 1 ∨ errN zs = 4 := by unfold errN; repeat' split
                                                                                   all_goals omega

def CoRel (zs : List Int) (w : World) (b2 b4 : Nat) (i : Value) (wr : World) : Prop :=
  ∃ k : Nat, k ≤ zs.length ∧ i = .int .i64 k ∧ (∀ j (h : j < zs.length), j < k → 0 ≤ zs[j] ∧ zs[j] ≤ 15) ∧ Blk wr b2 (row16 fun _ => 0) 25 ∧ Blk wr b4 (row16 (Hf.cn (zs.take k))) 25 ∧ Below w.heap.size w wr
theorem row_inc (zs : List Int) (k m : Nat) (h : k < zs.length) (hm : zs[k] = (m : Int)) (h0 : 0 < m) :
    (row16 (Hf.cn (zs.take k))).setIfInBounds m (.int .i64 ((Hf.cn (zs.take k) m : Int) + 1)) = row16 (Hf.cn (zs.take (k + 1))) := by
  have e : ((Hf.cn (zs.take k) m : Int) + 1) = ((Hf.cn (zs.take k) m + 1 : Nat) : Int) := by omega
  rw [e, row16_set]
  apply row16_congr
  intro n hn
  rw [Hf.cn_take zs k n h]
  by_cases e2 : n = m
  · subst e2; rw [if_pos rfl, if_pos ⟨h0, hm⟩]
  · rw [if_neg e2, if_neg (by omega)]; rfl
theorem row_same (zs : List Int) (k : Nat) (h : k < zs.length) (hm : zs[k] = 0) : row16 (Hf.cn (zs.take k)) = row16 (Hf.cn (zs.take (k + 1))) := by
  apply row16_congr
  intro n hn
  rw [Hf.cn_take zs k n h, if_neg (by omega)]; rfl
theorem row_none : row16 (Hf.cn []) = row16 (fun _ => 0) := row16_congr _ _ (fun n _ => Hf.cn_nil n)
/-- what counted answers -/
def cntV (zs : List Int) : Value := .tuple #[.agg (if errN zs = 0 then row16 (Hf.cn zs) else row16 fun _ => 0), .int .i64 (errN zs : Int)]
theorem cntV_bad {zs : List Int} {n : Nat} (h : errN zs = n) (h0 : n ≠ 0) : cntV zs = .tuple #[.agg (row16 fun _ => 0), .int .i64 (n : Int)] := by unfold cntV; rw [if_neg (by omega), h]
theorem cntV_ok {zs : List Int} (h : errN zs = 0) : cntV zs = .tuple #[.agg (row16 (Hf.cn zs)), .int .i64 0] := by unfold cntV; rw [if_pos h, h]; rfl
theorem counted_long (n : Nat) (a : Option Addr) (c : Nat) (w : World) (h : 320 < n) (h2 : n ≤ 9223372036854775807) :
    Calls Try.prog 19 #[.slice a n c] w fun e w' => e = .returned (.tuple #[.agg (row16 fun _ => 0), .int .i64 1]) ∧ Below w.heap.size w w' := by
  have p1 : decide (320 < (n : Int)) = true := by simp; omega
  go_enter Try.func19, Try.ntmps19
  go_wp2_with (first
    | (refine wl_alloc 25 _ zero25 rfl rfl ?_; intro W1 b1 B1 l1 k1)
    | (refine wl_store 25 16 size25 _ _ rfl rfl _ rfl (row16 fun _ => 0) rfl _ _ B1 (row16_size _) (row16_size _) (row16_one _) ?_; intro W5 hB5 hT5))
  exact post_cell_tmp (v := .int .i64 1) (cs := row16 fun _ => 0) Try.underlying25 rfl size25 Try.results19 hB5 (row16_size _) rfl rfl rfl ⟨rfl, hT5.below k1 l1⟩
set_option maxHeartbeats 2000000 in
theorem counted_few (zs : List Int) (a : Option Addr) (b o c : Nat) (w : World) (hl : zs.length ≤ 320) (ha : Hid (Ints w zs a b o)) :
    Calls Try.prog 19 #[.slice a zs.length c] w fun e w' => e = .returned (cntV zs) ∧ Below w.heap.size w w' := by
  have p1 : decide (320 < (zs.length : Int)) = false := by simp; omega
  go_enter Try.func19, Try.ntmps19
  go_wp2_with (refine wl_alloc 25 _ zero25 rfl rfl ?_; intro _ _ _ _ _)
  rename_i W2 b2 B2 l2 k2 W3 b4 B4 l3 k3 K hK
  have n1 : b2 < W2.heap.size := B2.lt
  have C2 := Blk.keep B2 k3
  have HE := Lib.hid (bq_trans k2 k3)
  have s1 := k2.size
  have g2 : w.heap.size ≤ b2 := by omega
  have g4 : w.heap.size ≤ b4 := by omega
  have n2 : b2 ≠ b4 := by omega
  clear B2 l2 k2 l3 k3 s1 n1 p1
  go_loopw [13] (fun i wr => CoRel zs w b2 b4 i wr) (fun i _ => zs.length - (intOf i).toNat)
  case atStart => exact ⟨0, by omega, rfl, fun j h h2 => by omega, C2, by rw [List.take_zero, row_none]; exact B4, HE.out⟩
  case round =>
    obtain ⟨k, hk, rfl, hr, hb2, hb4, hbel⟩ := hrel
    have HR := Lib.hid hr
    have HB := Lib.hid hbel
    clear hr hbel C2 B4 HE
    by_cases hlt : k < zs.length
    · obtain ⟨rfl, hz0, hz1, hcell⟩ := ha.out.at HB.out k hlt
      obtain ⟨z, hz⟩ : ∃ z, z = zs[k] := ⟨_, rfl⟩
      rw [← hz] at hz0 hz1 hcell
      have HZ := Lib.hid hz
      clear hz
      by_cases c1 : z < 0
      · have HN := Lib.hid (errN_bad zs hl k hlt (Or.inl (HZ.out ▸ c1)))
        go_wp2_with (refine wl_store 25 16 size25 _ _ rfl rfl _ rfl (row16 fun _ => 0) rfl _ _ hb2 (row16_size _) (row16_size _) (row16_one _) ?_; intro W5 hB5 hT5)
        exact post_cell_tmp (v := .int .i64 1) (cs := row16 fun _ => 0) Try.underlying25 rfl size25 Try.results19 hB5 (row16_size _) rfl rfl rfl ⟨by rw [cntV_bad HN.out (by omega)]; rfl, hT5.below HB.out g2⟩
      · by_cases c2 : 15 < z
        · have HN := Lib.hid (errN_bad zs hl k hlt (Or.inr (HZ.out ▸ c2)))
          go_wp2_with (refine wl_store 25 16 size25 _ _ rfl rfl _ rfl (row16 fun _ => 0) rfl _ _ hb2 (row16_size _) (row16_size _) (row16_one _) ?_; intro W5 hB5 hT5)
          exact post_cell_tmp (v := .int .i64 1) (cs := row16 fun _ => 0) Try.underlying25 rfl size25 Try.results19 hB5 (row16_size _) rfl rfl rfl ⟨by rw [cntV_bad HN.out (by omega)]; rfl, hT5.below HB.out g2⟩
        · have HR2 : Hid (∀ j (h : j < zs.length), j < k + 1 → 0 ≤ zs[j] ∧ zs[j] ≤ 15) := Lib.hid (by
            intro j h hj
            by_cases e : j = k
            · subst e; rw [← HZ.out]; omega
            · exact HR.out j h (by omega))
          clear HR
          by_cases c3 : 0 < z
          · obtain ⟨m, rfl⟩ : ∃ m : Nat, z = (m : Int) := ⟨z.toNat, by omega⟩
            have hm : m < 16 := by omega
            have hc := (hb4.cell m).trans (row16_at (Hf.cn (zs.take k)) m hm)
            have hf := hb4.frozen m
            have hcl := Hf.cn_len (zs.take k) m
            have hcl2 : (zs.take k).length ≤ 320 := by rw [List.length_take]; omega
            have HS := Lib.hid (hb4.set m (.int .i64 ((Hf.cn (zs.take k) m : Int) + 1)))
            rw [row_inc zs k m hlt HZ.out.symm (by omega)] at HS
            generalize Hf.cn (zs.take k) m = y at *
            generalize (zs.take k).length = q at *
            go_wp2
            go_roundw
            case rel => exact ⟨k + 1, by omega, by go_num, HR2.out, hb2.other _ (by show b2 ≠ b4; exact n2), HS.out, bq_set HB.out _ g4 _⟩
            case measure => simp [intOf]; omega
          · obtain rfl : z = 0 := by omega
            rw [row_same zs k hlt HZ.out.symm] at hb4
            go_wp2
            go_roundw
            case rel => exact ⟨k + 1, by omega, by go_num, HR2.out, hb2, hb4, HB.out⟩
            case measure => simp [intOf]; omega
    · obtain rfl : k = zs.length := by omega
      rw [List.take_length] at hb4
      have hin : Hf.inR zs := fun i h => HR.out i h h
      have hen := errN_tab zs hl hin
      have HM := Lib.hid (fun w => maybe_any zs w hl)
      cases ht : Hf.tabB zs with
      | true =>
        rw [ht] at HM hen
        have HN := Lib.hid hen
        clear hen hin HR ha ht
        go_wp2_with (first
          | (refine wl_load 25 16 _ Try.underlying25 rfl size25 _ rfl rfl _ rfl _ _ (by first | exact hb4 | exact hb4.keep hb5) (row16_size _) ?_)
          | (go_at_call 22; refine (HM.out _).mono ?_; rintro e w5 ⟨rfl, hb5⟩)
          | (refine wl_store 25 16 size25 _ _ rfl rfl _ rfl _ rfl _ _ (hb2.keep hb5) (row16_size _) (row16_size _) (row16_one _) ?_; intro W5 hB5 hT5))
        exact post_cell_tmp (v := .int .i64 0) Try.underlying25 rfl size25 Try.results19 hB5 (row16_size _) rfl rfl rfl ⟨by rw [cntV_ok HN.out], hT5.below (bq_trans HB.out hb5) g2⟩
      | false =>
        rw [ht] at HM hen
        have HN : Hid (errN zs = 4) := Lib.hid (hen.trans rfl)
        clear hen hin HR ha ht
        go_wp2_with (first
          | (refine wl_load 25 16 _ Try.underlying25 rfl size25 _ rfl rfl _ rfl _ _ hb4 (row16_size _) ?_)
          | (go_at_call 22; refine (HM.out _).mono ?_; rintro e w5 ⟨rfl, hb5⟩)
          | (refine wl_store 25 16 size25 _ _ rfl rfl _ rfl (row16 fun _ => 0) rfl _ _ (hb2.keep hb5) (row16_size _) (row16_size _) (row16_one _) ?_; intro W5 hB5 hT5))
        exact post_cell_tmp (v := .int .i64 4) (cs := row16 fun _ => 0) Try.underlying25 rfl size25 Try.results19 hB5 (row16_size _) rfl rfl rfl ⟨by rw [cntV_bad HN.out (by omega)]; rfl, hT5.below (bq_trans HB.out hb5) g2⟩
theorem counted_any (zs : List Int) (a : Option Addr) (b o c : Nat) (w : World) (hl : zs.length ≤ 9223372036854775807) (ha : Hid (Ints w zs a b o)) :
    Calls Try.prog 19 #[.slice a zs.length c] w fun e w' => e = .returned (cntV zs) ∧ Below w.heap.size w w' := by
  by_cases h : 320 < zs.length
  · rw [cntV_bad (errN_long zs h) (by omega)]
    exact counted_long zs.length a c w h hl
  · exact counted_few zs a b o c w (by omega) ha
end Go.Proofs.Ytgflnkkhcapkmaa
