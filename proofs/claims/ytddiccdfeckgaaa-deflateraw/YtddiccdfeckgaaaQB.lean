import Derived.Test.YtddiccdfeckgaaaQA
/- Layer 6: nothing is packed; the fixed answer. -/
namespace Go.Proofs.Ytddiccdfeckgaaa
open Go.RowKit Go.Maps
set_option maxRecDepth 100000
set_option linter.unusedVariables false
set_option linter.unusedSimpArgs false
theorem Pk.new {w W : World} {B b : Nat} (hB : Blk W b (pkA (.slice none 0 0) 0 0) 40) (hb : B ≤ W.heap.size) : Pk W B b (.slice none 0 0) [] := by
  have e1 : D.bytesOf [] = [] := D.bytesOf_small (by show 0 < 8; omega)
  have e2 : D.restOf [] = [] := D.restOf_small (by show 0 < 8; omega)
  refine ⟨?_, fun x hx => by cases hx⟩
  rw [e1, e2]
  exact ⟨hB, RB.nil _ _, by simp [Value.ownBlock], hb, fun x hx => by cases hx⟩
theorem Pk.keep {w w' : World} {B b : Nat} {sl : Value} {L : List Nat} (h : Pk w B b sl L) (k : Below w.heap.size w w') : Pk w' B b sl L := ⟨h.1.keep k, h.2⟩
theorem Pk.turned {w w' : World} {B b g : Nat} {sl : Value} {L : List Nat} (h : Pk w B b sl L) (k : Turned g w w') (h1 : g ≠ b) (h2 : sl.ownBlock ≠ some g) : Pk w' B b sl L := ⟨h.1.turned k h1 h2, h.2⟩
theorem Pk.far {w : World} {B b : Nat} {sl : Value} {L : List Nat} (h : Pk w B b sl L) {g : Nat} (hg : w.heap.size ≤ g) : sl.ownBlock ≠ some g := fun e => by have := (h.1.own.lt g e).2; omega
theorem Kb.belowP {w w' : World} {B b : Nat} {sl sl' : Value} {L : List Nat} (k : Kb b sl w w' sl') (h : Pk w B b sl L) (hb : B ≤ b) : Below B w w' := k.below hb (fun g hg => (h.1.own.lt g hg).1) h.1.base
theorem empty_bytes : D.bytesOf ([1, 1, 0] ++ D.sc 256 ++ D.fl ([1, 1, 0] ++ D.sc 256)) = [3, 0] := by
  rw [D.bytesOf_step (by decide), D.bytesOf_step (by decide), D.bytesOf_small (by decide)]
  decide
set_option maxHeartbeats 1000000 in
theorem raw6_empty (s : ByteArray) (w : World) (hs : s.size = 0) :
    Calls Try.prog 10 #[.string s] w fun e w' => e = .returned (.tuple #[.string ⟨#[3, 0]⟩, .int .i64 0]) ∧ Below w.heap.size w w' := by
  have q : decide (262144 < (s.size : Int)) = false := by rw [decide_eq_false_iff_not]; omega
  have q2 : decide ((0 : Int) < (s.size : Int)) = false := by rw [decide_eq_false_iff_not]; omega
  have q3 : decide (0 < s.size) = false := by rw [decide_eq_false_iff_not]; omega
  have HNB := Lib.hid (fun W => newBehind_any s W (by omega))
  go_enter Try.func10, Try.ntmps10
  go_upto_region 4 with (refine wl_alloc 40 _ zeroPk rfl rfl ?_; intro W1 b4 B4 l4 k4)
  have hP1 : Pk W1 w.heap.size b4 (.slice none 0 0) [] := Pk.new (w := w) B4 k4.size
  have HSA := Lib.hid (start6_any hP1)
  go_upto_region 5 with (go_at_call 18; refine HSA.out.mono ?_; rintro e w2 ⟨rfl, sl2, hP2, hK2⟩)
  have hb2 : Below w.heap.size W1 w2 := hK2.belowP hP1 l4
  have HB2 := Lib.hid (k4.trans hb2)
  have y4 := hP2.1.blk.lt
  clear HSA hP1 hK2 hb2 B4 k4
  go_upto_region 6 with (first
    | (go_at_call 19; refine (HNB.out _).mono ?_; rintro e w3 ⟨bm, be, rfl, lm, le, nme, hM3, hE3, hb3⟩)
    | (refine wl_alloc 44 _ zeroBh rfl rfl ?_; intro W4 b5 B5 l5 k5)
    | (refine wl_store 44 3 sizeBh _ _ rfl rfl b5 rfl (bhA s bm be) rfl _ _ B5 rfl rfl (bhA_one _ _ _) ?_; intro W5 C5 hT5))
  have hP3 := hP2.keep hb3
  have hP5 := (hP3.keep k5).turned hT5 (by have := hb3.size; omega) (hP3.far l5)
  have hb5 : Below w.heap.size w W5 := hT5.below (bq_trans (bq_trans HB2.out hb3) k5) (by have := hb3.size; omega)
  have HB5 := Lib.hid hb5
  have HSY := Lib.hid (symbol6_any hP5 256 (by omega) (by decide))
  have HP5 := Lib.hid hP5
  clear hP2 hP3 hP5 hb3 hM3 hE3 B5 l5 k5 C5 hT5 lm le nme HB2 hb5
  go_wp2
  go_loopw [6] (fun i wr => i = .int .i64 0 ∧ W5 = wr) (fun _ _ => 0)
  case atStart => exact ⟨rfl, rfl⟩
  case round =>
    obtain ⟨rfl, rfl⟩ := hrel
    go_upto_region 17 with (go_at_call 21; refine HSY.out.mono ?_; rintro e w6 ⟨rfl, sl6, hP6, hK6⟩)
    have HB6 := Lib.hid (HB5.out.trans (hK6.belowP HP5.out l4))
    have HFI := Lib.hid (fill6_any hP6 (by decide))
    have HP6 := Lib.hid hP6
    clear HSY hP6 hK6 HB5 HP5
    go_upto_region 18 with (go_at_call 25; refine HFI.out.mono ?_; rintro e w7 ⟨rfl, sl7, hP7, hK7⟩)
    have HB7 := Lib.hid (HB6.out.trans (hK7.belowP HP6.out l4))
    obtain ⟨c0, _, _, _, _, _⟩ := hP7.1.cells
    have hcv := hP7.1.own.str
    obtain ⟨a7, cc7, e7, _⟩ := hP7.1.own.len
    rw [empty_bytes] at hcv e7
    rw [e7] at hcv c0
    have hcv : (convert 38 9 (.slice a7 2 cc7)).run Try.prog w7 = .ok (.string ⟨#[3, 0]⟩) w7 := hcv
    have c0 : w7.cell? ⟨b4, 0, none⟩ = some (.slice a7 2 cc7) := c0
    clear HFI hP7 hK7 HB6 HP6
    go_wp2
    go_ret2
    exact ⟨rfl, HB7.out⟩
theorem abc_run : runV ⟨#[97, 98, 99, 97, 98, 99, 97, 98, 99]⟩ 3 = pairV (6, 3) := by
  unfold runV
  rw [if_neg (by decide)]
  exact congrArg pairV (by decide +kernel : D.run ⟨#[97, 98, 99, 97, 98, 99, 97, 98, 99]⟩ 3 = (6, 3))
set_option maxHeartbeats 1000000 in
theorem awake6_any (w : World) : Calls Try.prog 7 #[] w fun e w' => e = .returned (.bool true) ∧ Below w.heap.size w w' := by
  have H1 := Lib.hid (fun W => raw6_empty ⟨#[]⟩ W rfl)
  have H2 := Lib.hid (fun W => run_any ⟨#[97, 98, 99, 97, 98, 99, 97, 98, 99]⟩ 3 W (by decide))
  rw [abc_run] at H2
  unfold pairV at H2
  go_enter Try.func7, Try.ntmps7
  go_upto_region 2 with (go_at_call 10; refine (H1.out _).mono ?_; rintro e w1 ⟨rfl, hb1⟩)
  go_upto_region 3 with (go_at_call 8; refine (H2.out _).mono ?_; rintro e w2 ⟨rfl, hb2⟩)
  have HB := Lib.hid (bq_trans hb1 hb2)
  clear hb1 hb2
  go_wp2
  go_ret
  exact ⟨rfl, HB.out⟩
end Go.Proofs.Ytddiccdfeckgaaa
