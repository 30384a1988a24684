import Derived.Test.YthlnjipefeglpaaZT40
import Derived.Test.YthlnjipefeglpaaZT42
namespace Go.Proofs.Ythlnjipefeglpaa
open Go.RowKit
set_option linter.unusedVariables false
set_option maxRecDepth 100000
theorem stops_err {u : RS} (h : u.e ≠ 0) (k : Nat) : stopsT u k = ([], u) := by
  have := stops_stuck (x := u) (k := 0) h k
  rwa [Nat.zero_add] at this
def FillPost (w : World) (x : RS) (e : Ending) (w' : World) : Prop := ∃ sv, e = .returned (.tuple #[.agg (fillC (fillT x).1 sv).toArray, .agg (fillT x).2.cells]) ∧ OwnP w' w.heap.size 65 sv (fillT x).1.st ∧ Below w.heap.size w w'
theorem fillPost_of {w w' : World} {x y : RS} {F : FV} {e : Ending} (h : fillT x = (F, y)) (sv : Value) (he : e = .returned (.tuple #[.agg (fillC F sv).toArray, .agg y.cells])) (ho : OwnP w' w.heap.size 65 sv F.st) (hb : Below w.heap.size w w') : FillPost w x e w' :=
  ⟨sv, by rw [h]; exact he, by rw [h]; exact ho, hb⟩
theorem rfill_16_any (x : RS) (w : World) (hs : x.s.size ≤ 1000000) (hk : x.li 1 = 16) :
    Calls Try.prog 46 #[.agg x.cells] w (FillPost w x) := by
  have HL := Lib.hid (fun W => rlittle8_any x 1 W hs (by decide) (by decide))
  have hy := RS.liS_size x 1 hs
  have ef : fillT x = (⟨16, [0, 0, 0, 0], (x.liS 1).mv, (x.liS 1).mvS.li 1 / 64, (stopsT (grX (x.liS 1)) ((x.liS 1).mvS.li 1 % 16).toNat).1, 0⟩, (stopsT (grX (x.liS 1)) ((x.liS 1).mvS.li 1 % 16).toNat).2) := by
    unfold fillT
    rw [if_neg (by rw [hk]; decide), if_neg (by rw [hk]; decide), if_pos (by rw [hk]; decide), hk]
  rw [hk] at HL
  have FP := @fillPost_of w
  clear hk
  have HM := Lib.hid (fun W => rmatrix8_any (x.liS 1) W hy)
  have hz := mvS_size (x.liS 1) hy
  have HN := Lib.hid (fun W => rlittle8_any (x.liS 1).mvS 1 W hz (by decide) (by decide))
  have hq := RS.liS_size (x.liS 1).mvS 1 hz
  obtain ⟨m0, m1, m2, m3, m4, m5, hmv⟩ := list6 _ (mv_len (x.liS 1))
  have hle := @li_err (x.liS 1).mvS 1
  have hnb := li1_bd (x.liS 1).mvS
  have hgr : grX (x.liS 1) = ((x.liS 1).mvS.liS 1).dem (grBad ((x.liS 1).mvS.li 1)) 3 := rfl
  rw [hmv] at HM ef
  rw [hgr] at ef
  clear hgr hmv hz
  generalize (x.liS 1).mvS.liS 1 = q at *
  generalize (x.liS 1).mvS.li 1 = n at *
  by_cases he : q.e = 0
  rotate_left
  · have hn := hle he
    subst hn
    rw [RS.dem_err he, stops_err he] at ef
    exact (rfill_16_err _ _ _ _ _ _ _ _ m0 m1 m2 m3 m4 m5 _ _ _ _ w HL HM HN (beq_eq_false_iff_ne.2 he)).mono fun e w' ⟨h1, h2⟩ => FP ef (.slice none 0 0) h1 (ownP_nil _ _ _) h2
  · obtain ⟨qs, qa, qe⟩ := q
    dsimp only at he hq
    subst he
    cases hb : grBad n
    · rw [hb, RS.dem_no] at ef
      unfold grBad at hb
      simp only [Bool.or_eq_false_iff, decide_eq_false_iff_not] at hb
      obtain ⟨⟨⟨b1, b2⟩, b3⟩, b4⟩ := hb
      obtain ⟨N, hN⟩ : ∃ N : Nat, n % 16 = (N : Int) := ⟨(n % 16).toNat, by omega⟩
      have hN2 : (n % 16).toNat = N := by omega
      rw [hN2] at ef
      exact (rfill_16_ok N n _ _ _ _ _ _ qa m0 m1 m2 m3 m4 m5 _ _ _ qs w HL HM HN hnb.1 hnb.2 (decide_eq_false (by omega)) (decide_eq_false (by omega)) (beq_eq_false_iff_ne.2 (by omega)) (decide_eq_false (by omega)) hN hq).mono fun e w' ⟨sv, h1, h2, h3⟩ => FP ef sv h1 h2 h3
    · rw [hb, RS.dem_yes rfl, stops_err (show (3 : Int) ≠ 0 by decide)] at ef
      unfold grBad at hb
      simp only [Bool.or_eq_true, decide_eq_true_eq] at hb
      by_cases b1 : 2 < n / 64
      · exact (rfill_16_bad0 n _ _ _ _ _ _ qa m0 m1 m2 m3 m4 m5 _ _ _ qs w HL HM HN hnb.1 hnb.2 (decide_eq_true b1)).mono fun e w' ⟨h1, h2⟩ => FP ef (.slice none 0 0) h1 (ownP_nil _ _ _) h2
      by_cases b2 : 0 < n / 16 % 4
      · exact (rfill_16_bad1 n _ _ _ _ _ _ qa m0 m1 m2 m3 m4 m5 _ _ _ qs w HL HM HN hnb.1 hnb.2 (decide_eq_false b1) (decide_eq_true b2)).mono fun e w' ⟨h1, h2⟩ => FP ef (.slice none 0 0) h1 (ownP_nil _ _ _) h2
      by_cases b3 : n % 16 = 0
      · exact (rfill_16_bad2 n _ _ _ _ _ _ qa m0 m1 m2 m3 m4 m5 _ _ _ qs w HL HM HN hnb.1 hnb.2 (decide_eq_false b1) (decide_eq_false b2) (beq_iff_eq.2 b3)).mono fun e w' ⟨h1, h2⟩ => FP ef (.slice none 0 0) h1 (ownP_nil _ _ _) h2
      · exact (rfill_16_bad3 n _ _ _ _ _ _ qa m0 m1 m2 m3 m4 m5 _ _ _ qs w HL HM HN hnb.1 hnb.2 (decide_eq_false b1) (decide_eq_false b2) (beq_eq_false_iff_ne.2 b3) (decide_eq_true (by omega))).mono fun e w' ⟨h1, h2⟩ => FP ef (.slice none 0 0) h1 (ownP_nil _ _ _) h2
theorem rfill_18_any (x : RS) (w : World) (hs : x.s.size ≤ 1000000) (hk : x.li 1 = 18) :
    Calls Try.prog 46 #[.agg x.cells] w (FillPost w x) := by
  have HL := Lib.hid (fun W => rlittle8_any x 1 W hs (by decide) (by decide))
  have hy := RS.liS_size x 1 hs
  have ef : fillT x = (⟨18, [0, 0, 0, 0], (x.liS 1).mv, (x.liS 1).mvS.li 1 / 64, (stopsT (grX (x.liS 1)) ((x.liS 1).mvS.li 1 % 16).toNat).1, 0⟩, (stopsT (grX (x.liS 1)) ((x.liS 1).mvS.li 1 % 16).toNat).2) := by
    unfold fillT
    rw [if_neg (by rw [hk]; decide), if_neg (by rw [hk]; decide), if_pos (by rw [hk]; decide), hk]
  rw [hk] at HL
  have FP := @fillPost_of w
  clear hk
  have HM := Lib.hid (fun W => rmatrix8_any (x.liS 1) W hy)
  have hz := mvS_size (x.liS 1) hy
  have HN := Lib.hid (fun W => rlittle8_any (x.liS 1).mvS 1 W hz (by decide) (by decide))
  have hq := RS.liS_size (x.liS 1).mvS 1 hz
  obtain ⟨m0, m1, m2, m3, m4, m5, hmv⟩ := list6 _ (mv_len (x.liS 1))
  have hle := @li_err (x.liS 1).mvS 1
  have hnb := li1_bd (x.liS 1).mvS
  have hgr : grX (x.liS 1) = ((x.liS 1).mvS.liS 1).dem (grBad ((x.liS 1).mvS.li 1)) 3 := rfl
  rw [hmv] at HM ef
  rw [hgr] at ef
  clear hgr hmv hz
  generalize (x.liS 1).mvS.liS 1 = q at *
  generalize (x.liS 1).mvS.li 1 = n at *
  by_cases he : q.e = 0
  rotate_left
  · have hn := hle he
    subst hn
    rw [RS.dem_err he, stops_err he] at ef
    exact (rfill_18_err _ _ _ _ _ _ _ _ m0 m1 m2 m3 m4 m5 _ _ _ _ w HL HM HN (beq_eq_false_iff_ne.2 he)).mono fun e w' ⟨h1, h2⟩ => FP ef (.slice none 0 0) h1 (ownP_nil _ _ _) h2
  · obtain ⟨qs, qa, qe⟩ := q
    dsimp only at he hq
    subst he
    cases hb : grBad n
    · rw [hb, RS.dem_no] at ef
      unfold grBad at hb
      simp only [Bool.or_eq_false_iff, decide_eq_false_iff_not] at hb
      obtain ⟨⟨⟨b1, b2⟩, b3⟩, b4⟩ := hb
      obtain ⟨N, hN⟩ : ∃ N : Nat, n % 16 = (N : Int) := ⟨(n % 16).toNat, by omega⟩
      have hN2 : (n % 16).toNat = N := by omega
      rw [hN2] at ef
      exact (rfill_18_ok N n _ _ _ _ _ _ qa m0 m1 m2 m3 m4 m5 _ _ _ qs w HL HM HN hnb.1 hnb.2 (decide_eq_false (by omega)) (decide_eq_false (by omega)) (beq_eq_false_iff_ne.2 (by omega)) (decide_eq_false (by omega)) hN hq).mono fun e w' ⟨sv, h1, h2, h3⟩ => FP ef sv h1 h2 h3
    · rw [hb, RS.dem_yes rfl, stops_err (show (3 : Int) ≠ 0 by decide)] at ef
      unfold grBad at hb
      simp only [Bool.or_eq_true, decide_eq_true_eq] at hb
      by_cases b1 : 2 < n / 64
      · exact (rfill_18_bad0 n _ _ _ _ _ _ qa m0 m1 m2 m3 m4 m5 _ _ _ qs w HL HM HN hnb.1 hnb.2 (decide_eq_true b1)).mono fun e w' ⟨h1, h2⟩ => FP ef (.slice none 0 0) h1 (ownP_nil _ _ _) h2
      by_cases b2 : 0 < n / 16 % 4
      · exact (rfill_18_bad1 n _ _ _ _ _ _ qa m0 m1 m2 m3 m4 m5 _ _ _ qs w HL HM HN hnb.1 hnb.2 (decide_eq_false b1) (decide_eq_true b2)).mono fun e w' ⟨h1, h2⟩ => FP ef (.slice none 0 0) h1 (ownP_nil _ _ _) h2
      by_cases b3 : n % 16 = 0
      · exact (rfill_18_bad2 n _ _ _ _ _ _ qa m0 m1 m2 m3 m4 m5 _ _ _ qs w HL HM HN hnb.1 hnb.2 (decide_eq_false b1) (decide_eq_false b2) (beq_iff_eq.2 b3)).mono fun e w' ⟨h1, h2⟩ => FP ef (.slice none 0 0) h1 (ownP_nil _ _ _) h2
      · exact (rfill_18_bad3 n _ _ _ _ _ _ qa m0 m1 m2 m3 m4 m5 _ _ _ qs w HL HM HN hnb.1 hnb.2 (decide_eq_false b1) (decide_eq_false b2) (beq_eq_false_iff_ne.2 b3) (decide_eq_true (by omega))).mono fun e w' ⟨h1, h2⟩ => FP ef (.slice none 0 0) h1 (ownP_nil _ _ _) h2
theorem rfill_64_any (x : RS) (w : World) (hs : x.s.size ≤ 1000000) (hk : x.li 1 = 64) :
    Calls Try.prog 46 #[.agg x.cells] w (FillPost w x) := by
  have HL := Lib.hid (fun W => rlittle8_any x 1 W hs (by decide) (by decide))
  have hy := RS.liS_size x 1 hs
  have ef : fillT x = (⟨64, [0, 0, 0, 0], ((x.liS 1).liS 2).mv, 0, [], (x.liS 1).li 2⟩, ((x.liS 1).liS 2).mvS) := by
    unfold fillT
    rw [if_neg (by rw [hk]; decide), if_pos (by rw [hk]; decide), hk]
  rw [hk] at HL
  have FP := @fillPost_of w
  have HD := Lib.hid (fun W => rlittle8_any (x.liS 1) 2 W hy (by decide) (by decide))
  have hz := RS.liS_size (x.liS 1) 2 hy
  have HM := Lib.hid (fun W => rmatrix8_any ((x.liS 1).liS 2) W hz)
  obtain ⟨m0, m1, m2, m3, m4, m5, hmv⟩ := list6 _ (mv_len ((x.liS 1).liS 2))
  rw [hmv] at HM ef
  exact (rfill_64 _ _ _ _ _ _ _ _ _ m0 m1 m2 m3 m4 m5 _ _ _ _ w HL HD HM).mono fun e w' ⟨h1, h2⟩ => FP ef (.slice none 0 0) h1 (ownP_nil _ _ _) h2
theorem rfill_65_any (x : RS) (w : World) (hs : x.s.size ≤ 1000000) (hk : x.li 1 = 65) :
    Calls Try.prog 46 #[.agg x.cells] w (FillPost w x) := by
  have HL := Lib.hid (fun W => rlittle8_any x 1 W hs (by decide) (by decide))
  have hy := RS.liS_size x 1 hs
  have ef : fillT x = (⟨65, [0, 0, 0, 0], ((x.liS 1).liS 2).mv, 0, [], (x.liS 1).li 2⟩, ((x.liS 1).liS 2).mvS) := by
    unfold fillT
    rw [if_neg (by rw [hk]; decide), if_pos (by rw [hk]; decide), hk]
  rw [hk] at HL
  have FP := @fillPost_of w
  have HD := Lib.hid (fun W => rlittle8_any (x.liS 1) 2 W hy (by decide) (by decide))
  have hz := RS.liS_size (x.liS 1) 2 hy
  have HM := Lib.hid (fun W => rmatrix8_any ((x.liS 1).liS 2) W hz)
  obtain ⟨m0, m1, m2, m3, m4, m5, hmv⟩ := list6 _ (mv_len ((x.liS 1).liS 2))
  rw [hmv] at HM ef
  exact (rfill_65 _ _ _ _ _ _ _ _ _ m0 m1 m2 m3 m4 m5 _ _ _ _ w HL HD HM).mono fun e w' ⟨h1, h2⟩ => FP ef (.slice none 0 0) h1 (ownP_nil _ _ _) h2
theorem rfill_any (x : RS) (w : World) (hs : x.s.size ≤ 1000000) :
    Calls Try.prog 46 #[.agg x.cells] w (FillPost w x) := by
  by_cases k0 : x.li 1 = 0
  · have HL := Lib.hid (fun W => rlittle8_any x 1 W hs (by decide) (by decide))
    have hy := RS.liS_size x 1 hs
    have ef : fillT x = (⟨0, (x.liS 1).cv, [0, 0, 0, 0, 0, 0], 0, [], 0⟩, (x.liS 1).cvS) := if_pos k0
    rw [k0] at HL
    have FP := @fillPost_of w
    obtain ⟨r, g, b, a, hcv⟩ := list4 _ (cv_len (x.liS 1))
    have HC := Lib.hid (fun W => rcolor8_any (x.liS 1) W hy)
    rw [hcv] at HC ef
    exact (rfill_0 _ _ _ _ _ _ r g b a _ _ _ w HL HC).mono fun e w' ⟨h1, h2⟩ => FP ef (.slice none 0 0) h1 (ownP_nil _ _ _) h2
  by_cases k1 : x.li 1 = 64
  · exact rfill_64_any x w hs k1
  by_cases k2 : x.li 1 = 65
  · exact rfill_65_any x w hs k2
  by_cases k3 : x.li 1 = 16
  · exact rfill_16_any x w hs k3
  by_cases k4 : x.li 1 = 18
  · exact rfill_18_any x w hs k4
  · have HL := Lib.hid (fun W => rlittle8_any x 1 W hs (by decide) (by decide))
    have he : (x.liS 1).e = 0 := Decidable.byContradiction fun h => k0 (li_err h)
    have ef : fillT x = (⟨x.li 1, [0, 0, 0, 0], [0, 0, 0, 0, 0, 0], 0, [], 0⟩, ⟨(x.liS 1).s, (x.liS 1).a, 3⟩) := by
      unfold fillT
      rw [if_neg k0, if_neg (by omega), if_neg (by omega), RS.dem_yes he]
    have FP := @fillPost_of w
    exact (rfill_none (x.li 1) _ _ _ _ _ _ w (beq_eq_false_iff_ne.2 k0) (beq_eq_false_iff_ne.2 k1) (beq_eq_false_iff_ne.2 k2) (beq_eq_false_iff_ne.2 k3) (beq_eq_false_iff_ne.2 k4) HL).mono fun e w' ⟨h1, h2⟩ => FP ef (.slice none 0 0) h1 (ownP_nil _ _ _) h2
end Go.Proofs.Ythlnjipefeglpaa
