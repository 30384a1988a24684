import Derived.Test.YtddiccdfeckgaaaQL
/- Layer 6: a law: bytes that are all unlike are packed as their codes alone. -/
namespace Go.Proofs.Ytddiccdfeckgaaa
open Go.RowKit
set_option maxRecDepth 100000
set_option linter.unusedVariables false
set_option linter.unusedSimpArgs false
namespace D
/-- the first k bytes are all unlike -/
def unl (s : ByteArray) (k : Nat) : Prop := ∀ i j, i < j → j < k → at8 s i ≠ at8 s j
/-- the bits of the codes of the first k bytes -/
def wsum (s : ByteArray) : Nat → Nat
  | 0 => 0
  | k + 1 => wsum s k + (if at8 s k < 144 then 8 else 9)
theorem unl_run (s : ByteArray) (h : unl s s.size) (a : Nat) (ha : a < s.size) : run s a = (0, 0) := by
  have hm : ∀ d, 1 ≤ d → d ≤ a → mt s a d = 0 := fun d h1 h2 => by
    have := mt_skip s a d (k := 0) (by rw [Nat.add_zero]; exact Ne.symm (h (a - d) a (by omega) ha))
    omega
  have hb : ∀ k, k ≤ a → best s a k = (0, 0) := fun k => by
    induction k with
    | zero => intro _; rfl
    | succ k ih =>
      intro hk
      rw [best, ih (by omega), hm (k + 1) (by omega) hk, if_neg (by show ¬ 0 < 0; omega)]
  unfold run
  rw [hb _ (by omega)]
  rfl
theorem sc_byte (n : Nat) (h : n < 256) : (sc n).length = if n < 144 then 8 else 9 := by
  unfold sc
  split
  · exact hb_len _ _
  · exact hb_len _ _
theorem unl_toks (s : ByteArray) (h : unl s s.size) : ∀ f a, a ≤ s.size → s.size - a ≤ f → (toks s f a).length + wsum s a = wsum s s.size
  | 0, a, h1, h2 => by
    rw [show a = s.size by omega]
    show 0 + _ = _
    omega
  | f + 1, a, h1, h2 => by
    rw [toks]
    by_cases ha : a < s.size
    · have hr := unl_run s h a ha
      have ht : tok s a = sc (at8 s a) := by unfold tok; rw [hr]; rfl
      have hst : stp s a = 1 := by unfold stp; rw [hr]; rfl
      have ih := unl_toks s h f (a + 1) (by omega) (by omega)
      have hlt := at8_lt s a
      rw [if_pos ha, ht, hst, List.length_append, sc_byte _ hlt]
      rw [wsum] at ih
      omega
    · rw [if_neg ha, show a = s.size by omega]
      show 0 + _ = _
      omega
theorem pack_len (s : ByteArray) : (pack s).length = ((allB s).length + 7) / 8 := by
  unfold pack
  rw [bytesOf_len _ _ (Nat.le_refl _), List.length_append]
  unfold fl
  split
  · rw [List.length_nil]; omega
  · rw [nb_len]; omega
theorem sc256 : (sc 256).length = 7 := by decide
theorem unl_pack (s : ByteArray) (h : unl s s.size) : (pack s).length = (10 + wsum s s.size + 7) / 8 := by
  have h1 := unl_toks s h s.size 0 (Nat.zero_le _) (by omega)
  rw [pack_len]
  unfold allB
  rw [List.length_append, List.length_append, sc256]
  have h2 : wsum s 0 = 0 := rfl
  show (3 + (toks s s.size 0).length + 7 + 7) / 8 = _
  congr 1
  omega
theorem wsum_le (s : ByteArray) : ∀ k, wsum s k ≤ 9 * k
  | 0 => Nat.le_refl _
  | k + 1 => by
    have := wsum_le s k
    rw [wsum]
    split <;> omega
end D
/-- a row of bools -/
def boA (f : Nat → Bool) : Array Value := ((List.range 256).map fun i => Value.bool (f i)).toArray
theorem boA_at (f : Nat → Bool) (i : Nat) (h : i < 256) : (boA f)[i]? = some (.bool (f i)) := by simp [boA, h]
theorem boA_set (f : Nat → Bool) (i : Nat) (v : Bool) : (boA f).setIfInBounds i (.bool v) = boA (fun j => if j = i then v else f j) := by
  apply Array.ext
  · simp [boA]
  · intro j h1 h2
    have hj : j < 256 := by simpa [boA] using h2
    rw [Array.getElem_setIfInBounds (by simp [boA]; exact hj)]
    simp only [boA, List.getElem_toArray, List.getElem_map, List.getElem_range]
    by_cases e : i = j
    · rw [if_pos e, if_pos e.symm]
    · rw [if_neg e, if_neg (Ne.symm e)]
theorem zeroBo (w : World) : (zeroValue 32).run Try.prog w = .ok (.agg (boA (fun _ => false))) w := by kernel_rfl
def PlRel (w : World) (b : Nat) (s : ByteArray) (n i : Value) (wr : World) : Prop :=
  ∃ (k : Nat) (f : Nat → Bool), k ≤ s.size ∧ k ≤ 300 ∧ i = .int .i64 (k : Int) ∧ n = .int .i64 ((10 + D.wsum s k : Nat) : Int) ∧ Blk wr b (boA f) 32 ∧ (∀ c, f c = true ↔ ∃ j, j < k ∧ D.at8 s j = c) ∧ D.unl s k ∧ Below w.heap.size w wr
set_option maxHeartbeats 2000000 in
theorem deflatePlain_walk (s : ByteArray) (w : World) (hs : s.size ≤ maxLen) :
    Calls Try.prog 6 #[.string s] w fun e w' => e = .returned (.bool true) ∧ Below w.heap.size w w' := by
  have HAW := Lib.hid (fun W => awake6_any W)
  have HRW := Lib.hid (fun W => raw6_any s W hs)
  have hs9 : s.size ≤ 9223372036854775807 := by unfold maxLen at hs; omega
  clear hs
  go_enter Try.func6, Try.ntmps6
  go_upto_region 3 with (refine wl_alloc 32 _ zeroBo rfl rfl ?_; intro W1 b4 B4 l4 k4)
  have HST : Hid (PlRel w b4 s (.int .i64 10) (.int .i64 0) W1) := Lib.hid ⟨0, fun _ => false, Nat.zero_le _, by omega, rfl, rfl, B4, fun c => ⟨fun h => (by cases h), fun ⟨j, hj, _⟩ => absurd hj (by omega)⟩, fun i j h1 h2 => by omega, k4⟩
  clear B4 k4
  go_wp2
  go_loopw [3, 5] (fun n i wr => PlRel w b4 s n i wr) (fun _ i _ => 300 - (intOf i).toNat)
  case atStart => exact HST.out
  case round =>
    obtain ⟨k, f, hks, hk3, rfl, rfl, hB, hf, hu, hbl⟩ := hrel
    clear HST
    have HB := Lib.hid hB
    have HBL := Lib.hid hbl
    have HF := Lib.hid hf
    have HU := Lib.hid hu
    have hws := D.wsum_le s k
    obtain ⟨n, hn⟩ : ∃ n, n = 10 + D.wsum s k := ⟨_, rfl⟩
    have HN := Lib.hid hn
    rw [← hn]
    have hn9 : n ≤ 3000 := by omega
    clear hB hbl hf hu hn hws
    by_cases hk : k < s.size ∧ k < 300
    · obtain ⟨hk1, hk2⟩ := hk
      have t0 : decide ((k : Int) < (s.size : Int)) = true := by rw [decide_eq_true_iff]; omega
      have t0' : decide (k < s.size) = true := by rw [decide_eq_true_iff]; omega
      have t1 : decide ((k : Int) < 300) = true := by rw [decide_eq_true_iff]; omega
      have hc := s[k].toNat_lt
      have hat := D.at8_at s k hk1
      obtain ⟨c, hcc⟩ : ∃ c, s[k].toNat = c := ⟨_, rfl⟩
      rw [hcc] at hat hc
      have hc2 : c < 256 := hc
      have i1 : (k : Int) < (s.size : Int) := by omega
      have i2 : (0 : Int) ≤ (k : Int) := by omega
      have i3 : (c : Int) < 256 := by omega
      have i4 : (0 : Int) ≤ (c : Int) := by omega
      have cc := (HB.out.cell c).trans (boA_at f c hc2)
      have fc := HB.out.frozen c
      cases hfc : f c with
      | true =>
        rw [hfc] at cc
        go_wp2_with (go_at_call 7; refine (HAW.out _).mono ?_; rintro e w2 ⟨rfl, hb2⟩)
        go_ret
        exact ⟨rfl, bq_trans HBL.out hb2⟩
      | false =>
        rw [hfc] at cc
        have hnew : ∀ j, j < k → D.at8 s j ≠ c := fun j hj e => by
          have := (HF.out c).2 ⟨j, hj, e⟩
          rw [hfc] at this
          cases this
        have HU2 : Hid (D.unl s (k + 1)) := Lib.hid (fun i j h1 h2 => by
          by_cases e : j = k
          · subst e; rw [hat]; exact hnew i h1
          · exact HU.out i j h1 (by omega))
        have HF2 : Hid (∀ x, (if x = c then true else f x) = true ↔ ∃ j, j < k + 1 ∧ D.at8 s j = x) := Lib.hid (fun x => by
          by_cases e : x = c
          · rw [if_pos e]
            exact ⟨fun _ => ⟨k, by omega, by rw [hat, e]⟩, fun _ => rfl⟩
          · rw [if_neg e, HF.out x]
            constructor
            · rintro ⟨j, h1, h2⟩; exact ⟨j, by omega, h2⟩
            · rintro ⟨j, h1, h2⟩
              refine ⟨j, ?_, h2⟩
              by_cases e2 : j = k
              · subst e2; rw [hat] at h2; exact absurd h2.symm e
              · omega)
        have hB2 := HB.out.set c (.bool true)
        rw [boA_set] at hB2
        have HB2 := Lib.hid hB2
        have HBL2 := Lib.hid (bq_set HBL.out ⟨b4, c, none⟩ l4 (.bool true))
        have hwk : D.wsum s (k + 1) = D.wsum s k + (if c < 144 then 8 else 9) := by rw [D.wsum, hat]
        have HWK := Lib.hid hwk
        clear hB2 hnew hwk hat
        by_cases h144 : c < 144
        · have v0 : decide ((c : Int) < 144) = true := by rw [decide_eq_true_iff]; omega
          have HNN : Hid ((n : Int) + 8 = ((10 + D.wsum s (k + 1) : Nat) : Int)) := Lib.hid (by rw [HWK.out, HN.out, if_pos h144]; omega)
          obtain ⟨n2, hn2⟩ : ∃ n2, n2 = 10 + D.wsum s (k + 1) := ⟨_, rfl⟩
          have en : (n : Int) + 8 = (n2 : Int) := by rw [HNN.out, hn2]
          have HN2 := Lib.hid hn2
          clear hn2
          go_wp2
          go_roundw
          case rel => exact ⟨k + 1, _, by omega, by omega, by go_num, by rw [HN2.out], HB2.out, HF2.out, HU2.out, HBL2.out⟩
          case measure => simp [intOf]; omega
        · have v0 : decide ((c : Int) < 144) = false := by rw [decide_eq_false_iff_not]; omega
          have HNN : Hid ((n : Int) + 9 = ((10 + D.wsum s (k + 1) : Nat) : Int)) := Lib.hid (by rw [HWK.out, HN.out, if_neg h144]; omega)
          obtain ⟨n2, hn2⟩ : ∃ n2, n2 = 10 + D.wsum s (k + 1) := ⟨_, rfl⟩
          have en : (n : Int) + 9 = (n2 : Int) := by rw [HNN.out, hn2]
          have HN2 := Lib.hid hn2
          clear hn2
          go_wp2
          go_roundw
          case rel => exact ⟨k + 1, _, by omega, by omega, by go_num, by rw [HN2.out], HB2.out, HF2.out, HU2.out, HBL2.out⟩
          case measure => simp [intOf]; omega
    · by_cases h256 : 256 < s.size
      · have t2 : decide (256 < (s.size : Int)) = true := by rw [decide_eq_true_iff]; omega
        by_cases hk1 : k < s.size
        · have t0 : decide ((k : Int) < (s.size : Int)) = true := by rw [decide_eq_true_iff]; omega
          have t0' : decide (k < s.size) = true := by rw [decide_eq_true_iff]; omega
          have t1 : decide ((k : Int) < 300) = false := by rw [decide_eq_false_iff_not]; omega
          go_wp2_with (go_at_call 7; refine (HAW.out _).mono ?_; rintro e w2 ⟨rfl, hb2⟩)
          go_ret
          exact ⟨rfl, bq_trans HBL.out hb2⟩
        · have t0 : decide ((k : Int) < (s.size : Int)) = false := by rw [decide_eq_false_iff_not]; omega
          have t0' : decide (k < s.size) = false := by rw [decide_eq_false_iff_not]; omega
          go_wp2_with (go_at_call 7; refine (HAW.out _).mono ?_; rintro e w2 ⟨rfl, hb2⟩)
          go_ret
          exact ⟨rfl, bq_trans HBL.out hb2⟩
      · have t2 : decide (256 < (s.size : Int)) = false := by rw [decide_eq_false_iff_not]; omega
        have hk1 : k = s.size := by omega
        have t0 : decide ((k : Int) < (s.size : Int)) = false := by rw [decide_eq_false_iff_not]; omega
        have t0' : decide (k < s.size) = false := by rw [decide_eq_false_iff_not]; omega
        have hpl : (bs (D.pack s)).size = (n + 7) / 8 := by
          have := D.unl_pack s (by have := HU.out; rw [hk1] at this; exact this)
          rw [bs_size, this, HN.out, hk1]
        have hrv : rawV6 s = .tuple #[.string (bs (D.pack s)), .int .i64 0] := by unfold rawV6; rw [if_neg (by omega)]
        rw [hrv] at HRW
        obtain ⟨O, hO⟩ : ∃ O, O = bs (D.pack s) := ⟨_, rfl⟩
        rw [← hO] at HRW hpl
        have e7 : (n : Int) + 7 = ((n + 7 : Nat) : Int) := by omega
        obtain ⟨n7, hn7⟩ : ∃ x, x = n + 7 := ⟨_, rfl⟩
        rw [← hn7] at e7 hpl
        have e8 : (n7 : Int) / 8 = (O.size : Int) := by rw [hpl]; omega
        have hO9 : O.size ≤ 1000 := by omega
        clear hrv hO hn7 hpl hk1 hk
        go_upto_region 15 with (go_at_call 10; refine (HRW.out _).mono ?_; rintro e w2 ⟨rfl, hb2⟩)
        have HB2 := Lib.hid (bq_trans HBL.out hb2)
        clear hb2
        go_wp2_with (go_at_call 7; refine (HAW.out _).mono ?_; rintro e w3 ⟨rfl, hb3⟩)
        go_ret
        exact ⟨rfl, bq_trans HB2.out hb3⟩
end Go.Proofs.Ytddiccdfeckgaaa
