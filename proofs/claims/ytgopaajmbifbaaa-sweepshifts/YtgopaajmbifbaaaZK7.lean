import Derived.Test.YtgopaajmbifbaaaZK6
import Derived.Test.YtgopaajmbifbaaaZK0
import Derived.BigRegion
import Derived.Laws.BitsAllLaws
namespace Go.Proofs.Ytgopaajmbifbaaa
open Go.RowKit
set_option linter.unusedVariables false
set_option linter.unusedSimpArgs false
set_option maxRecDepth 100000
def talC (f : Nat → Int) (g : Nat → Nat) : Array Value := ((List.range 256).map (fun i => Value.int .i64 (f i)) ++ (List.range 4).map (fun i => Value.int .u64 (g i : Int))).toArray
theorem talC_size (f : Nat → Int) (g : Nat → Nat) : (talC f g).size = 260 := by simp [talC]
theorem talC_at (f : Nat → Int) (g : Nat → Nat) (s : Nat) (h : s < 256) : (talC f g)[s]? = some (.int .i64 (f s)) := by
  simp [talC, List.getElem?_append_left, h]
theorem talC_up (f : Nat → Int) (g : Nat → Nat) (i : Nat) (h : i < 4) : (talC f g)[256 + i]? = some (.int .u64 (g i : Int)) := by
  simp only [talC, List.getElem?_toArray]
  rw [List.getElem?_append_right (by simp)]
  simp [h]
def upF (f : Nat → Int) (s : Nat) (n : Int) : Nat → Int := fun t => f t + (if (s : Int) = (t : Int) then n else 0)
def upG (g : Nat → Nat) (i v : Nat) : Nat → Nat := fun j => if j = i then v else g j
theorem talC_set (f : Nat → Int) (g : Nat → Nat) (s : Nat) (n x : Int) (h : s < 256) (hx : f s + n = x) : (talC f g).setIfInBounds s (.int .i64 x) = talC (upF f s n) g := by
  subst hx
  apply Array.ext_getElem?
  intro j
  rw [Array.getElem?_setIfInBounds]
  rcases Nat.lt_trichotomy j 256 with hj | hj | hj
  · rw [talC_at _ _ j hj, talC_at _ _ j hj]
    by_cases e : s = j
    · subst e; rw [if_pos rfl, if_pos (by rw [talC_size]; omega)]; simp [upF]
    · rw [if_neg e]; simp only [upF]; rw [if_neg (by omega)]; simp
  · rw [if_neg (by omega), show j = 256 + 0 by omega, talC_up _ _ 0 (by omega), talC_up _ _ 0 (by omega)]
  · rw [if_neg (by omega)]
    rcases Nat.lt_or_ge j 260 with h2 | h2
    · rw [show j = 256 + (j - 256) by omega, talC_up _ _ (j - 256) (by omega), talC_up _ _ (j - 256) (by omega)]
    · rw [Array.getElem?_eq_none (by rw [talC_size]; omega), Array.getElem?_eq_none (by rw [talC_size]; omega)]
theorem talC_setUp (f : Nat → Int) (g : Nat → Nat) (i v : Nat) (h : i < 4) : (talC f g).setIfInBounds (256 + i) (.int .u64 (v : Int)) = talC f (upG g i v) := by
  apply Array.ext_getElem?
  intro j
  rw [Array.getElem?_setIfInBounds]
  rcases Nat.lt_or_ge j 256 with hj | hj
  · rw [if_neg (by omega), talC_at _ _ j hj, talC_at _ _ j hj]
  · rcases Nat.lt_or_ge j 260 with h2 | h2
    · obtain ⟨k, rfl⟩ : ∃ k, j = 256 + k := ⟨j - 256, by omega⟩
      rw [talC_up _ _ k (by omega), talC_up _ _ k (by omega)]
      by_cases e : i = k
      · subst e; rw [if_pos rfl, if_pos (by rw [talC_size]; omega)]; simp [upG]
      · rw [if_neg (by omega)]; simp only [upG]; rw [if_neg (by omega)]
    · rw [if_neg (by omega), Array.getElem?_eq_none (by rw [talC_size]; omega), Array.getElem?_eq_none (by rw [talC_size]; omega)]
def Words (f : Nat → Int) (g : Nat → Nat) : Prop := ∀ i, i < 4 → g i < 18446744073709551616 ∧ ∀ j, j < 64 → (g i).testBit j = decide (0 < f (64 * i + j))
def Tal (w : World) (b : Nat) (f : Nat → Int) : Prop := ∃ g, Blk w b (talC f g) 71 ∧ Words f g
theorem Tal.turned {w w' : World} {b p : Nat} {f : Nat → Int} (h : Tal w b f) (hb : Turned p w w') (hp : b ≠ p) : Tal w' b f := by
  obtain ⟨g, h1, h2⟩ := h
  exact ⟨g, hb.blk h1 hp, h2⟩
theorem words_zero : Words (fun _ => 0) (fun _ => 0) := fun i _ => ⟨by show (0 : Nat) < 18446744073709551616; decide, fun j _ => by simp⟩
theorem words_up {f : Nat → Int} {g : Nat → Nat} (h : Words f g) (s : Nat) (n : Int) (hs : s < 256) (hp : 0 < f s + n) : Words (upF f s n) (upG g (s / 64) (g (s / 64) ||| 2 ^ (s % 64))) := by
  intro i hi
  obtain ⟨h1, h2⟩ := h i hi
  unfold upG
  by_cases e : i = s / 64
  · subst e
    rw [if_pos rfl]
    refine ⟨Nat.or_lt_two_pow (n := 64) h1 (Nat.pow_lt_pow_right (by omega) (by omega)), fun j hj => ?_⟩
    rw [Nat.testBit_or, Nat.testBit_two_pow, h2 j hj]
    unfold upF
    by_cases e2 : s % 64 = j
    · rw [show 64 * (s / 64) + j = s by omega, if_pos rfl]
      simp [e2, hp]
    · rw [if_neg (by omega)]
      simp [e2]
  · rw [if_neg e]
    refine ⟨h1, fun j hj => ?_⟩
    rw [h2 j hj]
    unfold upF
    rw [if_neg (by omega), Int.add_zero]
theorem words_off {f : Nat → Int} {g : Nat → Nat} (h : Words f g) (s : Nat) (n : Int) (hs : s < 256) (hp : ¬ 0 < f s + n) : Words (upF f s n) (upG g (s / 64) (g (s / 64) &&& (18446744073709551615 - 2 ^ (s % 64)))) := by
  intro i hi
  obtain ⟨h1, h2⟩ := h i hi
  unfold upG
  by_cases e : i = s / 64
  · subst e
    rw [if_pos rfl]
    refine ⟨Nat.lt_of_le_of_lt Nat.and_le_left h1, fun j hj => ?_⟩
    have hlt : 2 ^ (s % 64) < 2 ^ 64 := Nat.pow_lt_pow_right (by omega) (by omega)
    rw [Nat.testBit_and, show 18446744073709551615 - 2 ^ (s % 64) = 2 ^ 64 - (2 ^ (s % 64) + 1) by omega, Nat.testBit_two_pow_sub_succ hlt, Nat.testBit_two_pow, h2 j hj]
    unfold upF
    by_cases e2 : s % 64 = j
    · rw [show 64 * (s / 64) + j = s by omega, if_pos rfl]
      simp [e2, hp]
    · rw [if_neg (by omega)]
      simp [e2, hj]
  · rw [if_neg e]
    refine ⟨h1, fun j hj => ?_⟩
    rw [h2 j hj]
    unfold upF
    rw [if_neg (by omega), Int.add_zero]
theorem shl_wrap (j : Nat) (h : j < 64) : IntKind.u64.wrap (2 ^ j) = ((2 ^ j : Nat) : Int) := by
  have h2 : 2 ^ j < 2 ^ 64 := Nat.pow_lt_pow_right (by omega) h
  have h3 : ((2 : Int) ^ j) = ((2 ^ j : Nat) : Int) := by push_cast; rfl
  rw [h3, IntKind.wrap_u64]
  generalize 2 ^ j = p at *
  omega
theorem pow_lt64 (j : Nat) (h : j < 64) : 2 ^ j < 18446744073709551616 := Nat.pow_lt_pow_right (m := j) (n := 64) (by omega) h
set_option maxHeartbeats 2000000 in
theorem add17_any (f : Nat → Int) (s : Nat) (n : Int) (b : Nat) (w : World) (hs : s < 256) (hT : Tal w b f) (h2 : -1000000 ≤ f s) (h3 : f s ≤ 1000000) (hn : -1 ≤ n) (hn1 : n ≤ 1) :
    Calls Try.prog 42 #[.pointer (some ⟨b, 0, none⟩), .int .i64 (s : Int), .int .i64 n] w fun e w' => e = .returned (.tuple #[]) ∧ Tal w' b (upF f s n) ∧ But b b w w' := by
  obtain ⟨g, hB, hW⟩ := hT
  obtain ⟨x, hx⟩ : ∃ x, f s + n = x := ⟨_, rfl⟩
  have HW := Lib.hid hW
  have h0 : -1000001 ≤ x := by omega
  have h1 : x ≤ 1000001 := by omega
  have c0 : w.cell? ⟨b, s, none⟩ = some (.int .i64 (f s)) := (hB.cell s).trans (talC_at f g s hs)
  have f0 := hB.frozen s
  have hj : s / 64 < 4 := by omega
  have HG := Lib.hid (hW (s / 64) hj).1
  obtain ⟨P, hPe⟩ : ∃ P, P = 2 ^ (s % 64) := ⟨_, rfl⟩
  have hw : IntKind.u64.wrap (2 ^ (s % 64)) = (P : Int) := by rw [shl_wrap (s % 64) (by omega), hPe]
  have HP : Hid (P < 18446744073709551616) := Lib.hid (by rw [hPe]; exact pow_lt64 (s % 64) (by omega))
  have HPE := Lib.hid hPe
  clear hPe
  have B1 : Blk (w.setCell ⟨b, s, none⟩ (.int .i64 x)).drew b (talC (upF f s n) g) 71 := by rw [← talC_set f g s n x hs hx]; exact (hB.set s _).drew
  have HK : Hid (But b b w (w.setCell ⟨b, s, none⟩ (.int .i64 x)).drew) := Lib.hid (by
    have h := (But.of (p := b) (q := b) (bq_refl w)).setp s (.int .i64 x)
    exact ⟨h.os, h.tape, h.output, h.size, h.block⟩)
  have hu : upF f s n s = x := by unfold upF; rw [if_pos rfl]; exact hx
  clear hW hB
  have HB := Lib.hid B1
  clear B1
  go_enter Try.func42, Try.ntmps42
  go_wp2_with fail
  go_region
  have B1 := HB.out
  have HK1 := HK.out
  clear c0 f0 HB HK
  generalize (w.setCell ⟨b, s, none⟩ (.int .i64 x)).drew = W1 at *
  have HK := Lib.hid HK1
  clear HK1
  have c1 : W1.cell? ⟨b, s, none⟩ = some (.int .i64 x) := by rw [B1.cell s, talC_at _ _ s hs, hu]
  by_cases hp : 0 < x
  · have ho : bits .or .u64 (g (s / 64) : Int) (P : Int) = ((g (s / 64) ||| P : Nat) : Int) := u64_or_nat _ _ HG.out HP.out
    go_upto_region 3 with (fail)
    rw [hw]
    have c2 : W1.cell? ⟨b, 256 + s / 64, none⟩ = some (.int .u64 (g (s / 64) : Int)) := (B1.cell _).trans (talC_up _ _ _ hj)
    have f2 : W1.frozen? ⟨b, 256 + s / 64, none⟩ = false := B1.frozen _
    go_region
    go_wp2_with fail
    try rw [ho]
    refine bodyPost_end (results_none rfl _ _ _) rfl ⟨rfl, ⟨upG g (s / 64) (g (s / 64) ||| P), ?_, ?_⟩, ?_⟩
    · rw [← talC_setUp _ _ _ _ hj]
      exact (B1.set _ _).drew
    · have hW := words_up HW.out s n hs (by omega)
      rw [HPE.out]
      exact hW
    · have h := HK.out.setp (256 + s / 64) (.int .u64 ((g (s / 64) ||| P : Nat) : Int))
      exact ⟨h.os, h.tape, h.output, h.size, h.block⟩
  · have ho : bits .andNot .u64 (g (s / 64) : Int) (P : Int) = ((g (s / 64) &&& (18446744073709551615 - P) : Nat) : Int) := u64_andNot_nat _ _ HG.out HP.out
    go_upto_region 4 with (fail)
    rw [hw]
    have c2 : W1.cell? ⟨b, 256 + s / 64, none⟩ = some (.int .u64 (g (s / 64) : Int)) := (B1.cell _).trans (talC_up _ _ _ hj)
    have f2 : W1.frozen? ⟨b, 256 + s / 64, none⟩ = false := B1.frozen _
    go_region
    go_wp2_with fail
    try rw [ho]
    refine bodyPost_end (results_none rfl _ _ _) rfl ⟨rfl, ⟨upG g (s / 64) (g (s / 64) &&& (18446744073709551615 - P)), ?_, ?_⟩, ?_⟩
    · rw [← talC_setUp _ _ _ _ hj]
      exact (B1.set _ _).drew
    · have hW := words_off HW.out s n hs (by omega)
      rw [HPE.out]
      exact hW
    · have h := HK.out.setp (256 + s / 64) (.int .u64 ((g (s / 64) &&& (18446744073709551615 - P) : Nat) : Int))
      exact ⟨h.os, h.tape, h.output, h.size, h.block⟩
def topF (f : Nat → Int) : Nat := topN f 256
theorem word_hi {x : Nat} (h0 : 0 < x) (h : x < 18446744073709551616) : x.testBit (Lib.bitLen x - 1) = true ∧ (∀ j, Lib.bitLen x - 1 < j → x.testBit j = false) ∧ 1 ≤ Lib.bitLen x ∧ Lib.bitLen x ≤ 64 := by
  have h1 := bitLen_down x h0 h
  have h2 := bitLen_up x h
  have h3 := bitLen_pos x h0 h
  refine ⟨?_, fun j hj => Nat.testBit_lt_two_pow (Nat.lt_of_lt_of_le h2 (Nat.pow_le_pow_right (by omega) (by omega))), h3, Lib.bitLen_le _ 64 (by omega) h⟩
  generalize Lib.bitLen x = n at *
  obtain ⟨m, rfl⟩ : ∃ m, n = m + 1 := ⟨n - 1, by omega⟩
  simp only [Nat.add_sub_cancel] at *
  rw [Nat.testBit_eq_decide_div_mod_eq]
  have h4 : x / 2 ^ m = 1 := by
    have h5 : x < 2 * 2 ^ m := by rw [Nat.pow_succ] at h2; omega
    have h6 : 0 < 2 ^ m := Nat.two_pow_pos m
    exact Nat.div_eq_of_lt_le (by omega) (by omega)
  rw [h4]
  rfl
theorem top_is {f : Nat → Int} {g : Nat → Nat} (h : Words f g) (m : Nat) (hm : m < 4) (hz : ∀ i, m < i → i < 4 → g i = 0) (h0 : g m ≠ 0) : topF f = 64 * m + (Lib.bitLen (g m) - 1) := by
  obtain ⟨h1, h2⟩ := h m hm
  obtain ⟨h3, h4, h5, h6⟩ := word_hi (by omega) h1
  refine topN_is f _ 256 (by omega) (Or.inr ?_) fun s hs1 hs2 => ?_
  · have := h2 (Lib.bitLen (g m) - 1) (by omega)
    rw [h3] at this
    exact of_decide_eq_true this.symm
  · obtain ⟨k1, k2⟩ := h (s / 64) (by omega)
    have k3 := k2 (s % 64) (by omega)
    rw [show 64 * (s / 64) + s % 64 = s by omega] at k3
    have k4 : (g (s / 64)).testBit (s % 64) = false := by
      rcases Nat.lt_or_ge m (s / 64) with hl | hl
      · rw [hz _ hl (by omega)]; simp
      · rw [show s / 64 = m by omega]
        exact h4 _ (by omega)
    rw [k4] at k3
    exact of_decide_eq_false k3.symm
theorem top_none {f : Nat → Int} {g : Nat → Nat} (h : Words f g) (hz : ∀ i, i < 4 → g i = 0) : topF f = 0 := by
  refine topN_is f 0 256 (by omega) (Or.inl rfl) fun s hs1 hs2 => ?_
  obtain ⟨k1, k2⟩ := h (s / 64) (by omega)
  have k3 := k2 (s % 64) (by omega)
  rw [show 64 * (s / 64) + s % 64 = s by omega, hz _ (by omega)] at k3
  simp at k3
  omega
theorem len64c (x : Nat) (h : x < 18446744073709551616) (W : World) : Calls Try.prog 47 #[.int .u64 (x : Int)] W fun e w' => e = .returned (.int .i64 (Lib.bitLen x : Int)) ∧ W = w' := len64_any (x : Int) W (by omega) (by omega)
set_option maxHeartbeats 2000000 in
theorem greatest17_any (f : Nat → Int) (b : Nat) (w : World) (hT : Tal w b f) :
    Calls Try.prog 43 #[.pointer (some ⟨b, 0, none⟩)] w fun e w' => e = .returned (.int .i64 (topF f : Int)) ∧ w = w' := by
  obtain ⟨g, hB, hW⟩ := hT
  have HW := Lib.hid hW
  clear hW
  go_enter Try.func43, Try.ntmps43
  go_wp2_with fail
  go_loop [3] (fun i => (i = .int .i64 (3)) ∨ (i = .int .i64 (2) ∧ g 3 = 0) ∨ (i = .int .i64 (1) ∧ g 3 = 0 ∧ g 2 = 0) ∨ (i = .int .i64 (0) ∧ g 3 = 0 ∧ g 2 = 0 ∧ g 1 = 0) ∨ (i = .int .i64 (-1) ∧ g 3 = 0 ∧ g 2 = 0 ∧ g 1 = 0 ∧ g 0 = 0)) (fun i => (intOf i + 1).toNat)
  case atStart => exact Or.inl rfl
  case round =>
    rcases hrel with rfl | ⟨rfl, h3⟩ | ⟨rfl, h3, h2⟩ | ⟨rfl, h3, h2, h1⟩ | ⟨rfl, h3, h2, h1, h0⟩
    · have cg : w.cell? ⟨b, 259, none⟩ = some (.int .u64 (g 3 : Int)) := (hB.cell 259).trans (talC_up f g 3 (by decide))
      by_cases hz : g 3 = 0
      · have q0 : ((g 3 : Int) != 0) = false := by rw [hz]; rfl
        go_wp2_with fail
        go_round
        case rel => exact Or.inr (Or.inl ⟨rfl, hz⟩)
        case measure => simp [intOf]
      · have q0 : ((g 3 : Int) != 0) = true := by rw [bne_iff_ne]; omega
        have HR : Hid (topF f = 192 + (Lib.bitLen (g 3) - 1)) := Lib.hid (top_is HW.out 3 (by decide) (fun i h1 h2 => by omega) hz)
        obtain ⟨_, _, l1, l2⟩ := word_hi (show 0 < g 3 by omega) (HW.out 3 (by decide)).1
        have HL := Lib.hid fun W => len64c (g 3) (HW.out 3 (by decide)).1 W
        generalize Lib.bitLen (g 3) = B at *
        go_wp2_with (go_at_call 47; (with_reducible refine (HL.out _).mono ?_); rintro e w' ⟨rfl, rfl⟩)
        go_ret
        exact ⟨ret_int (by rw [HR.out]; omega), rfl⟩
    · have cg : w.cell? ⟨b, 258, none⟩ = some (.int .u64 (g 2 : Int)) := (hB.cell 258).trans (talC_up f g 2 (by decide))
      by_cases hz : g 2 = 0
      · have q0 : ((g 2 : Int) != 0) = false := by rw [hz]; rfl
        go_wp2_with fail
        go_round
        case rel => exact Or.inr (Or.inr (Or.inl ⟨rfl, h3, hz⟩))
        case measure => simp [intOf]
      · have q0 : ((g 2 : Int) != 0) = true := by rw [bne_iff_ne]; omega
        have HR : Hid (topF f = 128 + (Lib.bitLen (g 2) - 1)) := Lib.hid (top_is HW.out 2 (by decide) (fun i h1 h2 => by rcases (show i = 3 by omega) with rfl <;> assumption) hz)
        obtain ⟨_, _, l1, l2⟩ := word_hi (show 0 < g 2 by omega) (HW.out 2 (by decide)).1
        have HL := Lib.hid fun W => len64c (g 2) (HW.out 2 (by decide)).1 W
        generalize Lib.bitLen (g 2) = B at *
        go_wp2_with (go_at_call 47; (with_reducible refine (HL.out _).mono ?_); rintro e w' ⟨rfl, rfl⟩)
        go_ret
        exact ⟨ret_int (by rw [HR.out]; omega), rfl⟩
    · have cg : w.cell? ⟨b, 257, none⟩ = some (.int .u64 (g 1 : Int)) := (hB.cell 257).trans (talC_up f g 1 (by decide))
      by_cases hz : g 1 = 0
      · have q0 : ((g 1 : Int) != 0) = false := by rw [hz]; rfl
        go_wp2_with fail
        go_round
        case rel => exact Or.inr (Or.inr (Or.inr (Or.inl ⟨rfl, h3, h2, hz⟩)))
        case measure => simp [intOf]
      · have q0 : ((g 1 : Int) != 0) = true := by rw [bne_iff_ne]; omega
        have HR : Hid (topF f = 64 + (Lib.bitLen (g 1) - 1)) := Lib.hid (top_is HW.out 1 (by decide) (fun i h1 h2 => by rcases (show i = 3 ∨ i = 2 by omega) with rfl | rfl <;> assumption) hz)
        obtain ⟨_, _, l1, l2⟩ := word_hi (show 0 < g 1 by omega) (HW.out 1 (by decide)).1
        have HL := Lib.hid fun W => len64c (g 1) (HW.out 1 (by decide)).1 W
        generalize Lib.bitLen (g 1) = B at *
        go_wp2_with (go_at_call 47; (with_reducible refine (HL.out _).mono ?_); rintro e w' ⟨rfl, rfl⟩)
        go_ret
        exact ⟨ret_int (by rw [HR.out]; omega), rfl⟩
    · have cg : w.cell? ⟨b, 256, none⟩ = some (.int .u64 (g 0 : Int)) := (hB.cell 256).trans (talC_up f g 0 (by decide))
      by_cases hz : g 0 = 0
      · have q0 : ((g 0 : Int) != 0) = false := by rw [hz]; rfl
        go_wp2_with fail
        go_round
        case rel => exact Or.inr (Or.inr (Or.inr (Or.inr (⟨rfl, h3, h2, h1, hz⟩))))
        case measure => simp [intOf]
      · have q0 : ((g 0 : Int) != 0) = true := by rw [bne_iff_ne]; omega
        have HR : Hid (topF f = 0 + (Lib.bitLen (g 0) - 1)) := Lib.hid (top_is HW.out 0 (by decide) (fun i h1 h2 => by rcases (show i = 3 ∨ i = 2 ∨ i = 1 by omega) with rfl | rfl | rfl <;> assumption) hz)
        obtain ⟨_, _, l1, l2⟩ := word_hi (show 0 < g 0 by omega) (HW.out 0 (by decide)).1
        have HL := Lib.hid fun W => len64c (g 0) (HW.out 0 (by decide)).1 W
        generalize Lib.bitLen (g 0) = B at *
        go_wp2_with (go_at_call 47; (with_reducible refine (HL.out _).mono ?_); rintro e w' ⟨rfl, rfl⟩)
        go_ret
        exact ⟨ret_int (by rw [HR.out]; omega), rfl⟩
    · have HR : Hid (topF f = 0) := Lib.hid (top_none HW.out fun i hi => by rcases (show i = 0 ∨ i = 1 ∨ i = 2 ∨ i = 3 by omega) with rfl | rfl | rfl | rfl <;> assumption)
      go_wp2_with fail
      go_ret
      exact ⟨ret_int (by rw [HR.out]; rfl), rfl⟩
end Go.Proofs.Ytgopaajmbifbaaa
namespace Go.Proofs.Ytgopaajmbifbaaa
open Go.RowKit
set_option linter.unusedVariables false
set_option linter.unusedSimpArgs false
set_option maxRecDepth 100000
def rowF (n : Nat) (f : Nat → Int) : Array Value := ((List.range n).map fun i => Value.int .i64 (f i)).toArray
theorem rowF_size (n : Nat) (f : Nat → Int) : (rowF n f).size = n := by simp [rowF]
theorem rowF_at (n : Nat) (f : Nat → Int) (i : Nat) (h : i < n) : (rowF n f)[i]? = some (.int .i64 (f i)) := by simp [rowF, h]
def updN (f : Nat → Int) (k : Nat) (v : Int) : Nat → Int := fun j => if j = k then v else f j
theorem updN_same (f : Nat → Int) (k : Nat) (v : Int) : updN f k v k = v := by simp [updN]
theorem updN_other (f : Nat → Int) (k : Nat) (v : Int) (j : Nat) (h : j ≠ k) : updN f k v j = f j := by simp [updN, h]
theorem rowF_set (n : Nat) (f : Nat → Int) (k : Nat) (v : Int) : (rowF n f).setIfInBounds k (.int .i64 v) = rowF n (updN f k v) := by
  apply Array.ext_getElem?
  intro j
  rw [Array.getElem?_setIfInBounds]
  rcases Nat.lt_or_ge j n with hj | hj
  · rw [rowF_at _ _ j hj, rowF_at _ _ j hj]
    by_cases e : k = j
    · subst e; rw [if_pos rfl, if_pos (by rw [rowF_size]; omega), updN_same]
    · rw [if_neg e, updN_other _ _ _ _ (fun h => e h.symm)]
  · rw [Array.getElem?_eq_none (by rw [rowF_size]; omega), Array.getElem?_eq_none (by rw [rowF_size]; omega)]
    split
    · rw [if_neg (by rw [rowF_size]; omega)]
    · rfl
theorem rowF_rep (n : Nat) : Array.replicate n (Value.int .i64 0) = rowF n (fun _ => 0) := by
  apply Array.ext_getElem?
  intro j
  rcases Nat.lt_or_ge j n with hj | hj
  · rw [rowF_at _ _ j hj]; simp [hj]
  · rw [Array.getElem?_eq_none (by simp; omega), Array.getElem?_eq_none (by rw [rowF_size]; omega)]
structure Ch (c : Nat → Int) (cols k : Nat) (f g : Nat → Int) : Prop where
  first : ∀ j, j < cols → f j = hd c (j : Int) k
  next : ∀ m, m < k → ∀ j : Nat, j < cols → c m = (j : Int) → g m = hd c (j : Int) m
theorem ch_zero (c : Nat → Int) (cols : Nat) (f g : Nat → Int) (h : ∀ j, j < cols → f j = -1) : Ch c cols 0 f g := ⟨fun j hj => h j hj, fun m hm => absurd hm (by omega)⟩
theorem Ch.skip {c : Nat → Int} {cols k : Nat} {f g : Nat → Int} (h : Ch c cols k f g) (hc : c k < 0 ∨ (cols : Int) ≤ c k) : Ch c cols (k + 1) f g := by
  refine ⟨fun j hj => ?_, fun m hm j hj hcm => ?_⟩
  · rw [h.first j hj]
    show _ = (if c k = (j : Int) then (k : Int) else hd c (j : Int) k)
    rw [if_neg (by omega)]
  · rcases Nat.lt_or_ge m k with h2 | h2
    · exact h.next m h2 j hj hcm
    · rw [show m = k by omega] at hcm; omega
theorem Ch.put {c : Nat → Int} {cols k : Nat} {f g : Nat → Int} (h : Ch c cols k f g) (i : Nat) (hi : i < cols) (hc : c k = (i : Int)) : Ch c cols (k + 1) (updN f i (k : Int)) (updN g k (f i)) := by
  refine ⟨fun j hj => ?_, fun m hm j hj hcm => ?_⟩
  · show _ = (if c k = (j : Int) then (k : Int) else hd c (j : Int) k)
    by_cases e : j = i
    · subst e; rw [updN_same, if_pos hc]
    · rw [updN_other _ _ _ _ e, if_neg (by omega), h.first j hj]
  · rcases Nat.lt_or_ge m k with h2 | h2
    · rw [updN_other _ _ _ _ (by omega)]
      exact h.next m h2 j hj hcm
    · obtain rfl : m = k := by omega
      obtain rfl : i = j := by omega
      rw [updN_same, h.first i hi]
theorem szInt : (Try.prog.info? 3).map (·.size) = some 1 := by kernel_rfl
set_option maxHeartbeats 1000000 in
theorem col_core (ax ay bx by1 l r y u d f e p1 p2 q c : Int) (w : World) (ax0 : -16777216 ≤ ax) (ax1 : ax ≤ 16777216) (ay0 : -16777216 ≤ ay) (ay1 : ay ≤ 16777216) (bx0 : -16777216 ≤ bx) (bx1 : bx ≤ 16777216) (by10 : -16777216 ≤ by1) (by11 : by1 ≤ 16777216) (y0 : -16777216 ≤ y) (y1 : y ≤ 16777216) (eu : 7 - ax = u) (ed : by1 - ay = d) (ef : y - ay = f) (ee : bx - ax = e) (e1 : wrap64 (u * d) = p1) (e2 : wrap64 (f * e) = p2) (hd0 : 0 < d) (hd1 : d ≤ 33554432)
    (g0 : -9223372036854775808 ≤ p1 - p2) (g1 : p1 - p2 ≤ 9223372036854775807) (q0 : -4611686018427387904 ≤ q) (q1 : q ≤ 4611686018427387904) (HF : Hid (∀ W, Calls Try.prog 46 #[.int .i64 (p1 - p2), .int .i64 (16 * d)] W fun e w' => e = .returned (.tuple #[.int .i64 q, .bool true]) ∧ Below W.heap.size W w'))
    (hmx : ∀ (w : World) (ts : Array TypeId) (t : TypeId), (Builtin.max_ ts t #[.int .i64 0, .int .i64 (-q)]).run Try.prog w = .ok (.int .i64 c) w) :
    Calls Try.prog 41 #[.agg #[.int .i64 ax, .int .i64 ay, .int .i64 bx, .int .i64 by1, .int .i64 l, .int .i64 r], .int .i64 y] w fun e w' => e = .returned (.int .i64 c) ∧ Below w.heap.size w w' := by
  go_enter Try.func41, Try.ntmps41
  go_upto_region 1 with (go_big_may; first
    | (refine wl_box 27 _ _ rfl rfl (show _ = Value.agg #[.int .i64 ax, .int .i64 ay, .int .i64 bx, .int .i64 by1, .int .i64 l, .int .i64 r] from rfl) ?_; intro W1 bp Bp_1 l1 k1; have gp : w.heap.size ≤ bp := l1; have Hw1 := k1; clear l1 k1))
  have c0 : W1.cell? ⟨bp, 0, none⟩ = some (.int .i64 ax) := Bp_1.cell 0
  have c1 : W1.cell? ⟨bp, 1, none⟩ = some (.int .i64 ay) := Bp_1.cell 1
  have c2 : W1.cell? ⟨bp, 2, none⟩ = some (.int .i64 bx) := Bp_1.cell 2
  have c3 : W1.cell? ⟨bp, 3, none⟩ = some (.int .i64 by1) := Bp_1.cell 3
  go_wp2_with (first
    | (go_at_call 46; (with_reducible refine (HF.out _).mono ?_); rintro e W2 ⟨rfl, k2⟩; have Bp_2 := Bp_1.keep k2; have Hw2 := bq_trans Hw1 k2; clear k2 Bp_1 c0 c1 c2 c3 Hw1))
  go_ret
  exact ⟨rfl, Hw2⟩
theorem col_any (s : Sg) (y : Int) (w : World) (hr : rgtS s = true) (hy : smpB y = true) (hc : crsS s y = true) :
    Calls Try.prog 41 #[.agg #[.int .i64 s.ax, .int .i64 s.ay, .int .i64 s.bx, .int .i64 s.by1, .int .i64 s.l, .int .i64 s.r], .int .i64 y] w fun e w' => e = .returned (.int .i64 (colS s y)) ∧ Below w.heap.size w w' := by
  obtain ⟨⟨a1, a2⟩, ⟨b1, b2⟩, _⟩ := rgtS_bd hr
  have hy := smpB_bd hy
  obtain ⟨h1, h2⟩ := crs_bd hc
  have m1 := mul_bd 33554432 33554432 (show -33554432 ≤ 7 - s.ax ∧ 7 - s.ax ≤ 33554432 by omega) (show -33554432 ≤ s.by1 - s.ay ∧ s.by1 - s.ay ≤ 33554432 by omega)
  have m2 := mul_bd 33554432 33554432 (show -33554432 ≤ y - s.ay ∧ y - s.ay ≤ 33554432 by omega) (show -33554432 ≤ s.bx - s.ax ∧ s.bx - s.ax ≤ 33554432 by omega)
  have bq := fdiv_small ((7 - s.ax) * (s.by1 - s.ay) - (y - s.ay) * (s.bx - s.ax)) (16 * (s.by1 - s.ay)) 4611686018427387904 (by omega) (by omega)
  exact col_core s.ax s.ay s.bx s.by1 s.l s.r y _ _ _ _ _ _ _ _ w (by omega) (by omega) (by omega) (by omega) (by omega) (by omega) (by omega) (by omega) (by omega) (by omega) rfl rfl rfl rfl (w64 _ (by omega)) (w64 _ (by omega)) (by omega) (by omega) (by omega) (by omega) (by omega) (by omega)
    (Lib.hid fun W => (floor_yes _ _ W (by omega) (by omega) (by omega) (by omega) (by omega) (by omega)).mono fun e w' ⟨h1, n, h2⟩ => ⟨h1, h2 ▸ bq_drewN (bq_refl W) n⟩) (fun w ts t => run_max2 w ts t _ _ _ _)
end Go.Proofs.Ytgopaajmbifbaaa
