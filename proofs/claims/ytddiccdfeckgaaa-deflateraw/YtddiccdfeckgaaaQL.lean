import Derived.Test.YtddiccdfeckgaaaQK
/- Layer 6: Raw. -/
namespace Go.Proofs.Ytddiccdfeckgaaa
open Go.RowKit Go.Maps
set_option maxRecDepth 100000
set_option linter.unusedVariables false
set_option linter.unusedSimpArgs false
theorem Pk.kh {w w' : World} {B b bm be : Nat} {sl : Value} {L : List Nat} (h : Pk w B b sl L) (k : Kh bm be w w') (h1 : b ≠ bm) (h2 : b ≠ be) (h3 : sl.ownBlock ≠ some bm) (h4 : sl.ownBlock ≠ some be) : Pk w' B b sl L := by
  refine ⟨⟨?_, ?_, h.1.far, Nat.le_trans h.1.base k.size, h.1.bit⟩, h.2⟩
  · unfold Blk; rw [k.block b h.1.blk.lt h1 h2]; exact h.1.blk
  · rcases h.1.own.2 with ⟨e1, e2⟩ | ⟨g, cap, cur, e1, e2, e3, e4⟩
    · exact ⟨h.1.own.1, Or.inl ⟨e1, e2⟩⟩
    · have hg : g < w.heap.size := (h.1.own.lt g (by rw [e1]; rfl)).2
      have n1 : g ≠ bm := fun e => h3 (by rw [e1, e]; rfl)
      have n2 : g ≠ be := fun e => h4 (by rw [e1, e]; rfl)
      exact ⟨h.1.own.1, Or.inr ⟨g, cap, cur, e1, e2, by rw [k.block g hg n1 n2]; exact e3, e4⟩⟩
theorem Bh.kb {w w' : World} {b bm be g : Nat} {s : ByteArray} {k : Nat} {sl sl' : Value} (h : Bh w b bm be s k) (kb : Kb g sl w w' sl') (h1 : b ≠ g) (h2 : bm ≠ g) (h3 : be ≠ g) (f : sl.ownBlock ≠ some b ∧ sl.ownBlock ≠ some bm ∧ sl.ownBlock ≠ some be) : Bh w' b bm be s k :=
  h.of (kb.block _ h.lt.1 h1 f.1) (kb.block _ h.lt.2.1 h2 f.2.1) (kb.block _ h.lt.2.2 h3 f.2.2)
theorem Kb.fars {w w' : World} {g b bm be : Nat} {sl sl' : Value} (kb : Kb g sl w w' sl') (hb : b < w.heap.size) (hm : bm < w.heap.size) (he : be < w.heap.size) (f : sl.ownBlock ≠ some b ∧ sl.ownBlock ≠ some bm ∧ sl.ownBlock ≠ some be) : sl'.ownBlock ≠ some b ∧ sl'.ownBlock ≠ some bm ∧ sl'.ownBlock ≠ some be := by
  rcases kb.own with e | e
  · rw [e]; exact f
  · exact ⟨fun h => by have := e _ h; omega, fun h => by have := e _ h; omega, fun h => by have := e _ h; omega⟩
theorem Kh.below {bm be X : Nat} {w w' : World} (h : Kh bm be w w') (h1 : X ≤ bm) (h2 : X ≤ be) (hX : X ≤ w.heap.size) : Below X w w' := ⟨h.os, h.tape, h.output, h.size, fun k hk => h.block k (by omega) (by omega) (by omega)⟩
def R6Rel (w : World) (b4 b5 bm be : Nat) (s : ByteArray) (i : Value) (wr : World) : Prop :=
  ∃ (a f : Nat) (L : List Nat) (sl : Value), i = .int .i64 (a : Int) ∧ a ≤ s.size ∧ Pk wr w.heap.size b4 sl L ∧ Bh wr b5 bm be s a ∧ Below w.heap.size w wr ∧ (sl.ownBlock ≠ some b5 ∧ sl.ownBlock ≠ some bm ∧ sl.ownBlock ≠ some be) ∧ L.length ≤ 3 + 9 * a ∧ s.size - a ≤ f ∧ L ++ D.toks s f a = [1, 1, 0] ++ D.toks s s.size 0
/-- what Raw tells -/
def rawV6 (s : ByteArray) : Value := if 262144 < s.size then .tuple #[.string ⟨#[]⟩, .int .i64 7] else .tuple #[.string (bs (D.pack s)), .int .i64 0]
set_option maxHeartbeats 4000000 in
theorem raw6_any (s : ByteArray) (w : World) (hmx : s.size ≤ maxLen) :
    Calls Try.prog 10 #[.string s] w fun e w' => e = .returned (rawV6 s) ∧ Below w.heap.size w w' := by
  have hs9 : s.size ≤ 9223372036854775807 := by unfold maxLen at hmx; omega
  clear hmx
  by_cases hbig : 262144 < s.size
  · have hR : rawV6 s = .tuple #[.string ⟨#[]⟩, .int .i64 7] := by unfold rawV6; rw [if_pos hbig]
    rw [hR]
    have q : decide (262144 < (s.size : Int)) = true := by rw [decide_eq_true_iff]; omega
    clear hR
    go_enter Try.func10, Try.ntmps10
    go_wp2
    go_ret2
    exact ⟨rfl, bq_refl _⟩
  have hR : rawV6 s = .tuple #[.string (bs (D.pack s)), .int .i64 0] := by unfold rawV6; rw [if_neg hbig]
  rw [hR]
  have hs : s.size ≤ 1000000 := by omega
  have q : decide (262144 < (s.size : Int)) = false := by rw [decide_eq_false_iff_not]; omega
  have HNB := Lib.hid (fun W => newBehind_any s W (by omega))
  obtain ⟨O, hO⟩ : ∃ O, O = bs (D.pack s) := ⟨_, rfl⟩
  have HO := Lib.hid hO
  rw [← hO]
  clear hR hO
  go_enter Try.func10, Try.ntmps10
  go_upto_region 4 with (refine wl_alloc 40 _ zeroPk rfl rfl ?_; intro W1 b4 B4 l4 k4)
  have hP1 : Pk W1 w.heap.size b4 (.slice none 0 0) [] := Pk.new (w := w) B4 k4.size
  have HSA := Lib.hid (start6_any hP1)
  go_upto_region 5 with (go_at_call 18; refine HSA.out.mono ?_; rintro e w2 ⟨rfl, sl2, hP2, hK2⟩)
  have hb2 : Below w.heap.size W1 w2 := hK2.belowP hP1 l4
  have HB2 := Lib.hid (k4.trans hb2)
  have y4 := hP2.1.blk.lt
  have zw := HB2.out.size
  clear HSA hP1 hK2 hb2 B4 k4
  go_upto_region 6 with (first
    | (go_at_call 19; refine (HNB.out _).mono ?_; rintro e w3 ⟨bm, be, rfl, lm, le, nme, hM3, hE3, hb3⟩)
    | (refine wl_alloc 44 _ zeroBh rfl rfl ?_; intro W4 b5 B5 l5 k5)
    | (refine wl_store 44 3 sizeBh _ _ rfl rfl b5 rfl (bhA s bm be) rfl _ _ B5 rfl rfl (bhA_one _ _ _) ?_; intro W5 C5 hT5))
  have hP3 := hP2.keep hb3
  have z3 := hb3.size
  have ym := hM3.lt
  have ye := hE3.lt
  have hP5 := (hP3.keep k5).turned hT5 (by omega) (hP3.far l5)
  have hb5 : Below w.heap.size w W5 := hT5.below (bq_trans (bq_trans HB2.out hb3) k5) (by omega)
  have hE5 : Blk W5 be (zA (eaF s 0) s.size) 3 := by
    have := hT5.blk (hE3.keep k5) (by omega)
    rw [zA_zero] at this
    exact this
  have hB5 : Bh W5 b5 bm be s 0 := ⟨C5, ownsMap_keep hM3 (by rw [hT5.block bm (by omega), k5.block bm ym]), hE5, nme, by omega, by omega⟩
  have HST : Hid (R6Rel w b4 b5 bm be s (.int .i64 0) W5) := Lib.hid ⟨0, s.size, [1, 1, 0], sl2, rfl, Nat.zero_le _, hP5, hB5, hb5, ⟨hP3.far l5, hP2.far lm, hP2.far le⟩, by decide, by omega, rfl⟩
  have n4 : b4 ≠ bm := by omega
  have n4e : b4 ≠ be := by omega
  have n45 : b5 ≠ b4 := by omega
  have lbm : w.heap.size ≤ bm := by omega
  have lbe : w.heap.size ≤ be := by omega
  clear hP2 hP3 hP5 hb3 hM3 hE3 B5 l5 k5 C5 hT5 lm le HB2 hb5 hE5 hB5 y4 zw z3 ym ye HNB
  go_wp2
  go_loopw [6] (fun i wr => R6Rel w b4 b5 bm be s i wr) (fun i _ => s.size - (intOf i).toNat)
  case atStart => exact HST.out
  case round =>
    obtain ⟨a, f, L, sl, rfl, has, hP, hB, hbl, hfar, hLl, hf, hT⟩ := hrel
    clear HST
    have HP := Lib.hid hP
    have HB := Lib.hid hB
    have HBL := Lib.hid hbl
    have HF := Lib.hid hfar
    clear hP hB hbl hfar
    by_cases ha : a < s.size
    · have t0 : decide ((a : Int) < (s.size : Int)) = true := by rw [decide_eq_true_iff]; omega
      have t0' : decide (a < s.size) = true := by rw [decide_eq_true_iff]; omega
      have HRU := Lib.hid (brun_any HB.out hs ha)
      obtain ⟨f', rfl⟩ : ∃ f', f = f' + 1 := ⟨f - 1, by omega⟩
      rw [D.toks, if_pos ha, ← List.append_assoc] at hT
      have hro := D.run_ok s a ha
      have htl := D.tok_len s a ha
      have hsl := D.stp_le s a ha
      have hsp := D.stp_pos s a
      have HT := Lib.hid hT
      obtain ⟨R, hRr⟩ : ∃ R, D.run s a = R := ⟨_, rfl⟩
      obtain ⟨n, d⟩ := R
      rw [hRr] at HRU hro
      unfold pairV at HRU
      by_cases hn0 : n = 0
      · have htok : D.tok s a = D.sc (D.at8 s a) := by unfold D.tok; rw [hRr, if_pos hn0]
        have hstp : D.stp s a = 1 := by unfold D.stp; rw [hRr, if_pos hn0]
        rw [htok, hstp] at HT
        rw [htok, hstp] at htl
        rw [D.at8_at s a ha] at HT htl
        have t1 : ((n : Int) == 0) = true := by rw [beq_iff_eq]; omega
        have hw8 : IntKind.i64.wrap (s[a].toNat : Int) = (s[a].toNat : Int) := by have := s[a].toNat_lt; exact i64_wrap _ (by omega) (by omega)
        have hc8 := s[a].toNat_lt
        have i1 : (a : Int) < (s.size : Int) := by omega
        have i2 : (0 : Int) ≤ (a : Int) := by omega
        clear hT hro hsl hsp hRr hn0 htok hstp
        go_upto_region 9 with (go_at_call 20; refine HRU.out.mono ?_; rintro e w6 ⟨rfl, hb6⟩)
        have hP6 := HP.out.keep hb6
        have hB6 := HB.out.keep hb6
        have HBL6 := Lib.hid (bq_trans HBL.out hb6)
        have HSY := Lib.hid (symbol6_any hP6 s[a].toNat (by omega) (by omega))
        have HP6 := Lib.hid hP6
        have HB6 := Lib.hid hB6
        clear hP6 hB6 hb6 HRU HP HB HBL
        go_upto_region 14 with (go_at_call 21; refine HSY.out.mono ?_; rintro e w7 ⟨rfl, sl7, hP7, hK7⟩)
        have hB7 := HB6.out.kb hK7 n45 (Ne.symm n4) (Ne.symm n4e) HF.out
        have hf7 := hK7.fars HB6.out.lt.1 HB6.out.lt.2.1 HB6.out.lt.2.2 HF.out
        have HBL7 := Lib.hid (HBL6.out.trans (hK7.belowP HP6.out l4))
        have HKE := Lib.hid (keep_any hB7 1 hs (by omega))
        have HP7 := Lib.hid hP7
        have HF7 := Lib.hid hf7
        clear hP7 hK7 hB7 hf7 HSY HP6 HB6 HBL6
        go_upto_region 15 with (go_at_call 24; refine HKE.out.mono ?_; rintro e w8 ⟨rfl, hB8, hK8⟩)
        have hP8 := HP7.out.kh hK8 n4 n4e HF7.out.2.1 HF7.out.2.2
        have HFIN : Hid (R6Rel w b4 b5 bm be s (.int .i64 ((a + 1 : Nat) : Int)) w8) := Lib.hid ⟨a + 1, f', _, sl7, rfl, by omega, hP8, hB8, HBL7.out.trans (hK8.below lbm lbe HBL7.out.size), HF7.out, by rw [List.length_append]; omega, by omega, HT.out⟩
        obtain ⟨a1, ha1⟩ : ∃ x, x = a + 1 := ⟨_, rfl⟩
        have e1 : (a : Int) + 1 = (a1 : Int) := by omega
        rw [← ha1] at HFIN
        have HA1 := Lib.hid ha1
        clear hP8 hB8 hK8 HKE HP7 HF7 HBL7 ha1
        go_wp2
        go_roundw
        case rel => exact HFIN.out
        case measure => have := HA1.out; simp [intOf]; omega
      · have htok : D.tok s a = D.lb n ++ D.db d := by unfold D.tok; rw [hRr, if_neg hn0]
        have hstp : D.stp s a = n := by unfold D.stp; rw [hRr, if_neg hn0]
        rw [htok, hstp, ← List.append_assoc] at HT
        rw [htok, hstp, List.length_append] at htl
        rw [hstp] at hsl
        have t1 : ((n : Int) == 0) = false := by rw [beq_eq_false_iff_ne]; omega
        have hro2 : 3 ≤ n ∧ n ≤ 258 ∧ 1 ≤ d ∧ d ≤ a ∧ d ≤ 32768 := by
          rcases hro with ⟨h, _⟩ | ⟨h1, h2, h3, h4, h5, _⟩
          · exact absurd h hn0
          · exact ⟨h1, h2, h3, h4, h5⟩
        obtain ⟨r1, r2, r3, r4, r5⟩ := hro2
        clear hT hro hsp hRr htok hstp
        go_upto_region 9 with (go_at_call 20; refine HRU.out.mono ?_; rintro e w6 ⟨rfl, hb6⟩)
        have hP6 := HP.out.keep hb6
        have hB6 := HB.out.keep hb6
        have HBL6 := Lib.hid (bq_trans HBL.out hb6)
        have HSY := Lib.hid (length6_any hP6 l4 n r1 r2 (by omega))
        have HP6 := Lib.hid hP6
        have HB6 := Lib.hid hB6
        clear hP6 hB6 hb6 HRU HP HB HBL
        go_upto_region 13 with (go_at_call 22; refine HSY.out.mono ?_; rintro e w7 ⟨rfl, sl7, hP7, hK7⟩)
        have hB7 := HB6.out.kb hK7 n45 (Ne.symm n4) (Ne.symm n4e) HF.out
        have hf7 := hK7.fars HB6.out.lt.1 HB6.out.lt.2.1 HB6.out.lt.2.2 HF.out
        have HBL7 := Lib.hid (HBL6.out.trans (hK7.belowP HP6.out l4))
        have HDI := Lib.hid (distance6_any hP7 l4 d r3 r5 (by rw [List.length_append]; omega))
        have HP7 := Lib.hid hP7
        have HF7 := Lib.hid hf7
        have HB7 := Lib.hid hB7
        clear hP7 hK7 hB7 hf7 HSY HP6 HB6 HBL6
        go_upto_region 14 with (go_at_call 23; refine HDI.out.mono ?_; rintro e w9 ⟨rfl, sl9, hP9, hK9⟩)
        have hB9 := HB7.out.kb hK9 n45 (Ne.symm n4) (Ne.symm n4e) HF7.out
        have hf9 := hK9.fars HB7.out.lt.1 HB7.out.lt.2.1 HB7.out.lt.2.2 HF7.out
        have HBL9 := Lib.hid (HBL7.out.trans (hK9.belowP HP7.out l4))
        have HKE := Lib.hid (keep_any hB9 n hs (by omega))
        have HP9 := Lib.hid hP9
        have HF9 := Lib.hid hf9
        clear hP9 hK9 hB9 hf9 HDI HP7 HB7 HBL7 HF7
        go_upto_region 15 with (go_at_call 24; refine HKE.out.mono ?_; rintro e w8 ⟨rfl, hB8, hK8⟩)
        have hP8 := HP9.out.kh hK8 n4 n4e HF9.out.2.1 HF9.out.2.2
        have HFIN : Hid (R6Rel w b4 b5 bm be s (.int .i64 ((a + n : Nat) : Int)) w8) := Lib.hid ⟨a + n, f', _, sl9, rfl, by omega, hP8, hB8, HBL9.out.trans (hK8.below lbm lbe HBL9.out.size), HF9.out, by rw [List.length_append, List.length_append]; omega, by omega, HT.out⟩
        obtain ⟨a1, ha1⟩ : ∃ x, x = a + n := ⟨_, rfl⟩
        have e1 : (a : Int) + (n : Int) = (a1 : Int) := by omega
        rw [← ha1] at HFIN
        have HA1 := Lib.hid ha1
        clear hP8 hB8 hK8 HKE HP9 HF9 HBL9 ha1
        go_wp2
        go_roundw
        case rel => exact HFIN.out
        case measure => have := HA1.out; simp [intOf]; omega
    · have t0 : decide ((a : Int) < (s.size : Int)) = false := by rw [decide_eq_false_iff_not]; omega
      have t0' : decide (a < s.size) = false := by rw [decide_eq_false_iff_not]; omega
      rw [D.toks_end s f a (by omega), List.append_nil] at hT
      have HT := Lib.hid hT
      have HSY := Lib.hid (symbol6_any HP.out 256 (by omega) (by omega))
      have hsc := D.sc_len 256
      clear hT
      go_upto_region 17 with (go_at_call 21; refine HSY.out.mono ?_; rintro e w6 ⟨rfl, sl6, hP6, hK6⟩)
      have HB6 := Lib.hid (HBL.out.trans (hK6.belowP HP.out l4))
      have HFI := Lib.hid (fill6_any hP6 (by rw [List.length_append]; omega))
      have HP6 := Lib.hid hP6
      clear HSY hP6 hK6 HBL HP
      go_upto_region 18 with (go_at_call 25; refine HFI.out.mono ?_; rintro e w7 ⟨rfl, sl7, hP7, hK7⟩)
      have HB7 := Lib.hid (HB6.out.trans (hK7.belowP HP6.out l4))
      obtain ⟨c0, _, _, _, _, _⟩ := hP7.1.cells
      have hcv := hP7.1.own.str
      have hpk : D.bytesOf (L ++ D.sc 256 ++ D.fl (L ++ D.sc 256)) = D.pack s := by rw [HT.out]; rfl
      rw [hpk, ← HO.out] at hcv
      obtain ⟨a7, cc7, e7, _⟩ := hP7.1.own.len
      obtain ⟨n7, hn7⟩ : ∃ n, n = (D.bytesOf (L ++ D.sc 256 ++ D.fl (L ++ D.sc 256))).length := ⟨_, rfl⟩
      rw [← hn7] at e7
      rw [e7] at hcv c0
      clear HFI hP7 hK7 HB6 HP6 hpk e7 hn7
      go_wp2
      go_ret2
      exact ⟨rfl, HB7.out⟩
end Go.Proofs.Ytddiccdfeckgaaa
