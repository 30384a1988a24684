import Derived.Test.YthlnjipefeglpaaZU42
namespace Go.Proofs.Ythlnjipefeglpaa
open Go.RowKit
set_option linter.unusedVariables false
set_option maxRecDepth 100000
def At8 (T : List UInt8) (p : List UInt8) : RS := ⟨bs T, ((8 * p.length : Nat) : Int), 0⟩
theorem cut_mid (p d q : List UInt8) : (bs (p ++ (d ++ q))).extract p.length (p.length + d.length) = bs d := by
  apply ByteArray.ext
  rw [ByteArray.data_extract]
  apply Array.toList_inj.1
  rw [Array.toList_extract]
  simp [bs, List.extract_eq_take_drop]
theorem by_back {T p d q : List UInt8} (h : T = p ++ (d ++ q)) : byE (bs T).size ((8 * p.length : Nat) : Int) (d.length : Int) = 0 ∧ byB (bs T) ((8 * p.length : Nat) : Int) (d.length : Int) = bs d ∧ byS (bs T) ((8 * p.length : Nat) : Int) (d.length : Int) = bs T ∧ byA (bs T) ((8 * p.length : Nat) : Int) (d.length : Int) = ((8 * (p ++ d).length : Nat) : Int) := by
  have hz : (bs T).size = p.length + (d.length + q.length) := by rw [bs_size, h, List.length_append, List.length_append]
  have he : byE (bs T).size ((8 * p.length : Nat) : Int) (d.length : Int) = 0 := by
    unfold byE
    rw [hz, if_pos (by omega), if_neg (by omega)]
  refine ⟨he, ?_, if_pos he, ?_⟩
  · unfold byB
    rw [if_pos he]
    have e1 : ((((8 * p.length : Nat) : Int) + 7) / 8).toNat = p.length := by omega
    rw [e1, Int.toNat_natCast, h, cut_mid]
  · unfold byA
    rw [if_pos he, List.length_append]
    omega
theorem le1 {v : Nat} (h : v < 256) : B.le 1 v = by1 v := by
  show [UInt8.ofNat (v % 256)] = [UInt8.ofNat v]
  rw [Nat.mod_eq_of_lt h]
theorem le2 {v : Nat} (h : v < 65536) : B.le 2 v = by2 v := by
  show [UInt8.ofNat (v % 256), UInt8.ofNat (v / 256 % 256)] = [UInt8.ofNat (v % 256), UInt8.ofNat (v / 256)]
  rw [Nat.mod_eq_of_lt (show v / 256 < 256 by omega)]
theorem li1_back {T p q : List UInt8} {v : Nat} (h : T = p ++ (by1 v ++ q)) (hv : v < 256) : (At8 T p).li 1 = (v : Int) ∧ (At8 T p).liS 1 = At8 T (p ++ by1 v) := by
  obtain ⟨h1, h2, h3, h4⟩ := by_back h
  have l : ((by1 v).length : Int) = 1 := rfl
  rw [l] at h1 h2 h3 h4
  refine ⟨?_, ?_⟩
  · show (if (0 : Int) = 0 then liV (bs T) ((8 * p.length : Nat) : Int) 1 else 0) = _
    rw [if_pos rfl]
    unfold liV
    rw [h2, bs_data, ← le1 hv, B.lv_le 1 v (by have : B.P2 (8 * 1) = 256 := by decide
                                               omega)]
  · have e : (At8 T p).liS 1 = ⟨byS (bs T) ((8 * p.length : Nat) : Int) 1, byA (bs T) ((8 * p.length : Nat) : Int) 1, byE (bs T).size ((8 * p.length : Nat) : Int) 1⟩ := if_pos rfl
    rw [e, h1, h3, h4]
    rfl
theorem li2_back {T p q : List UInt8} {v : Nat} (h : T = p ++ (by2 v ++ q)) (hv : v < 65536) : (At8 T p).li 2 = (v : Int) ∧ (At8 T p).liS 2 = At8 T (p ++ by2 v) := by
  obtain ⟨h1, h2, h3, h4⟩ := by_back h
  have l : ((by2 v).length : Int) = 2 := rfl
  rw [l] at h1 h2 h3 h4
  refine ⟨?_, ?_⟩
  · show (if (0 : Int) = 0 then liV (bs T) ((8 * p.length : Nat) : Int) 2 else 0) = _
    rw [if_pos rfl]
    unfold liV
    rw [h2, bs_data, ← le2 hv, B.lv_le 2 v (by have : B.P2 (8 * 2) = 65536 := by decide
                                               omega)]
  · have e : (At8 T p).liS 2 = ⟨byS (bs T) ((8 * p.length : Nat) : Int) 2, byA (bs T) ((8 * p.length : Nat) : Int) 2, byE (bs T).size ((8 * p.length : Nat) : Int) 2⟩ := if_pos rfl
    rw [e, h1, h3, h4]
    rfl
theorem rgbaL_len {l : List Int} (h : rgbaL l = true) : ∃ r g b a, l = [r, g, b, a] ∧ rgbaOk r g b a = true := by
  unfold rgbaL at h
  split at h
  · exact ⟨_, _, _, _, rfl, h⟩
  · cases h
theorem matOkL_len {l : List Int} (h : matOkL l = true) : ∃ a b c d x y, l = [a, b, c, d, x, y] ∧ matOk a b c d x y = true := by
  unfold matOkL at h
  split at h
  · exact ⟨_, _, _, _, _, _, rfl, h⟩
  · cases h
theorem cv_back {T p q : List UInt8} {c : List Int} (h : T = p ++ (by4L c ++ q)) (hc : rgbaL c = true) : (At8 T p).cv = c ∧ (At8 T p).cvS = At8 T (p ++ by4L c) := by
  obtain ⟨k0, k1, k2, k3, rfl, hk⟩ := rgbaL_len hc
  obtain ⟨h1, h2, h3, h4⟩ := by_back h
  have l : ((by4L [k0, k1, k2, k3]).length : Int) = 4 := rfl
  rw [l] at h1 h2 h3 h4
  obtain ⟨⟨b0, b1⟩, ⟨b2, b3⟩, ⟨b4, b5⟩, ⟨b6, b7⟩⟩ := rgba_bd hk
  refine ⟨?_, ?_⟩
  · show (if (0 : Int) = 0 then rgV (bs T) ((8 * p.length : Nat) : Int) else _) = _
    rw [if_pos rfl]
    unfold rgV
    rw [if_pos h1, h2, bs_data]
    show List.map _ (by4 k0 k1 k2 k3) = _
    simp only [by4, List.map_cons, List.map_nil]
    rw [byte_int _ b0 b1, byte_int _ b2 b3, byte_int _ b4 b5, byte_int _ b6 b7]
  · have e : (At8 T p).cvS = ⟨byS (bs T) ((8 * p.length : Nat) : Int) 4, byA (bs T) ((8 * p.length : Nat) : Int) 4, byE (bs T).size ((8 * p.length : Nat) : Int) 4⟩ := if_pos rfl
    rw [e, h1, h3, h4]
    rfl
theorem mv_back {T p q : List UInt8} {m : List Int} (h : T = p ++ (matB m ++ q)) (hm : matOkL m = true) : (At8 T p).mv = m ∧ (At8 T p).mvS = At8 T (p ++ matB m) := by
  obtain ⟨a, b, c, d, x, y, rfl, hk⟩ := matOkL_len hm
  have h' : T = p ++ F.bys (matF a b c d x y) ++ q := by rw [List.append_assoc]; exact h
  have hb := back_matrix p q a b c d x y hk
  rw [← h'] at hb
  refine ⟨?_, ?_⟩
  · show (if (0 : Int) = 0 then matV (RS.begP (bs T) ((8 * p.length : Nat) : Int)) else _) = _
    rw [if_pos rfl]
    exact hb.2
  · show (if (0 : Int) = 0 then matS (RS.begP (bs T) ((8 * p.length : Nat) : Int)) else _) = _
    rw [if_pos rfl]
    refine hb.1.trans ?_
    show _ = At8 T (p ++ F.bys (matF a b c d x y))
    unfold At8
    rw [List.length_append]
theorem take_drop_flat {α : Type} (f : α → List UInt8) (l : List α) (k : Nat) (h : k < l.length) : l.flatMap f = (l.take k).flatMap f ++ (f l[k] ++ (l.drop (k + 1)).flatMap f) := by
  have e : l = l.take k ++ l[k] :: l.drop (k + 1) := by
    rw [← List.drop_eq_getElem_cons h, List.take_append_drop]
  conv => lhs; rw [e]
  rw [List.flatMap_append, List.flatMap_cons]
theorem stops_back {T p q : List UInt8} {st : List (List Int)} (h : T = p ++ (st.flatMap stopB ++ q)) (hok : stopsFrom 0 st = true) : ∀ k, k ≤ st.length → stopsT (At8 T p) k = (st.take k, At8 T (p ++ (st.take k).flatMap stopB))
  | 0, _ => by simp [stopsT]
  | k + 1, hk => by
    have hlt : k < st.length := hk
    have ih := stops_back h hok k (by omega)
    show stopStep (stopsT (At8 T p) k) = _
    rw [ih]
    have hx := stop_ok hok (Int.le_refl 0) st[k] (List.getElem_mem hlt)
    have hT : T = (p ++ (st.take k).flatMap stopB) ++ (stopB st[k] ++ ((st.drop (k + 1)).flatMap stopB ++ q)) := by
      rw [h, take_drop_flat stopB st k hlt]
      simp only [List.append_assoc]
    have hge : lastR 0 (st.take k) ≤ st[k].getD 0 0 := by
      have e : st = st.take (k + 1) ++ st.drop (k + 1) := (List.take_append_drop (k + 1) st).symm
      have h2 : stopsFrom 0 (st.take (k + 1)) = true := by
        cases hq : stopsFrom 0 (st.take (k + 1)) with
        | true => rfl
        | false =>
          have := stops_pre 0 (st.take (k + 1)) (st.drop (k + 1)) hq
          rw [← e, hok] at this
          cases this
      rw [List.take_succ_eq_append_getElem hlt, stops_snoc] at h2
      simp only [Bool.and_eq_true, decide_eq_true_eq] at h2
      exact h2.2.1.1
    have hnx : (st.take (k + 1)).flatMap stopB = (st.take k).flatMap stopB ++ stopB st[k] := flat_take stopB st k hlt
    rw [List.take_succ_eq_append_getElem hlt] at *
    obtain ⟨r, g, b, a, hd, hk4⟩ := rgbaL_len hx.2.2
    generalize st[k] = x at *
    obtain ⟨v, hv⟩ : ∃ v : Nat, x.getD 0 0 = (v : Int) := ⟨(x.getD 0 0).toNat, by omega⟩
    have hx2 : x = (v : Int) :: [r, g, b, a] := by
      cases x with
      | nil => simp at hd
      | cons y ys =>
        simp only [List.getD_cons_zero] at hv
        simp only [List.drop_succ_cons, List.drop_zero] at hd
        rw [hv, hd]
    have hvb : v < 256 := by omega
    have hsb : stopB x = by1 v ++ by4L [r, g, b, a] := by
      rw [hx2]; rfl
    rw [hsb] at hT hnx
    have hT1 : T = (p ++ (st.take k).flatMap stopB) ++ (by1 v ++ (by4L [r, g, b, a] ++ ((st.drop (k + 1)).flatMap stopB ++ q))) := by rw [hT]; simp only [List.append_assoc]
    obtain ⟨g1, g2⟩ := li1_back hT1 hvb
    have hT2 : T = (p ++ (st.take k).flatMap stopB ++ by1 v) ++ (by4L [r, g, b, a] ++ ((st.drop (k + 1)).flatMap stopB ++ q)) := by rw [hT]; simp only [List.append_assoc]
    obtain ⟨c1, c2⟩ := cv_back hT2 (show rgbaL [r, g, b, a] = true from hk4)
    have e0 : stopX (st.take k) (At8 T (p ++ (st.take k).flatMap stopB)) = At8 T (p ++ (st.take k).flatMap stopB ++ by1 v) := by
      unfold stopX
      rw [g1, g2, decide_eq_false (show ¬ (v : Int) < lastR 0 (st.take k) by rw [hv] at hge; omega), RS.dem_no]
    have e1 : stopStep (st.take k, At8 T (p ++ (st.take k).flatMap stopB)) = (st.take k ++ [(At8 T (p ++ (st.take k).flatMap stopB)).li 1 :: (stopX (st.take k) (At8 T (p ++ (st.take k).flatMap stopB))).cv], (stopX (st.take k) (At8 T (p ++ (st.take k).flatMap stopB))).cvS) := if_pos rfl
    rw [e1, e0, g1, c1, c2, hnx, hx2]
    simp only [List.append_assoc]
end Go.Proofs.Ythlnjipefeglpaa
namespace Go.Proofs.Ythlnjipefeglpaa
open Go.RowKit
set_option linter.unusedVariables false
set_option maxRecDepth 100000
theorem fill_back {T p q : List UInt8} {F : FV} (h : T = p ++ (fillB F ++ q)) (hok : fillOk F = true) : fillT (At8 T p) = (F, At8 T (p ++ fillB F)) := by
  obtain ⟨k, c, m, sp, st, id⟩ := F
  unfold fillOk at hok
  dsimp only at hok
  by_cases k0 : k = 0
  · rw [if_pos k0] at hok
    subst k0
    simp only [Bool.and_eq_true, decide_eq_true_eq] at hok
    obtain ⟨⟨⟨⟨hm, hs⟩, hi⟩, hl⟩, hc⟩ := hok
    have hst : st = [] := List.eq_nil_of_length_eq_zero hl
    subst hm hs hi hst
    have eB : fillB ⟨0, c, [0, 0, 0, 0, 0, 0], 0, [], 0⟩ = by1 0 ++ by4L c := rfl
    rw [eB] at h ⊢
    obtain ⟨g1, g2⟩ := li1_back (T := T) (p := p) (q := by4L c ++ q) (v := 0) (by rw [h]; simp only [List.append_assoc]) (by decide)
    obtain ⟨c1, c2⟩ := cv_back (T := T) (p := p ++ by1 0) (q := q) (c := c) (by rw [h]; simp only [List.append_assoc]) hc
    have ef : fillT (At8 T p) = (⟨0, ((At8 T p).liS 1).cv, [0, 0, 0, 0, 0, 0], 0, [], 0⟩, ((At8 T p).liS 1).cvS) := if_pos g1
    rw [ef, g2, c1, c2]
    simp only [List.append_assoc]
  rw [if_neg k0] at hok
  by_cases k64 : k = 64 ∨ k = 65
  · rw [if_pos k64] at hok
    simp only [Bool.and_eq_true, decide_eq_true_eq] at hok
    obtain ⟨⟨⟨⟨⟨hc, hs⟩, hl⟩, hi0⟩, hi1⟩, hm⟩ := hok
    have hst : st = [] := List.eq_nil_of_length_eq_zero hl
    subst hc hs hst
    obtain ⟨i, rfl⟩ : ∃ i : Nat, id = (i : Int) := ⟨id.toNat, by omega⟩
    obtain ⟨kk, rfl⟩ : ∃ kk : Nat, k = (kk : Int) := ⟨k.toNat, by omega⟩
    have eB : fillB ⟨(kk : Int), [0, 0, 0, 0], m, 0, [], (i : Int)⟩ = by1 kk ++ (by2 i ++ matB m) := by
      unfold fillB
      dsimp only
      rw [if_neg k0, if_pos k64, Int.toNat_natCast, Int.toNat_natCast]
    rw [eB] at h ⊢
    obtain ⟨g1, g2⟩ := li1_back (T := T) (p := p) (q := by2 i ++ matB m ++ q) (v := kk) (by rw [h]; simp only [List.append_assoc]) (by omega)
    obtain ⟨d1, d2⟩ := li2_back (T := T) (p := p ++ by1 kk) (q := matB m ++ q) (v := i) (by rw [h]; simp only [List.append_assoc]) (by omega)
    obtain ⟨m1, m2⟩ := mv_back (T := T) (p := p ++ by1 kk ++ by2 i) (q := q) (m := m) (by rw [h]; simp only [List.append_assoc]) hm
    have ef : fillT (At8 T p) = (⟨(At8 T p).li 1, [0, 0, 0, 0], (((At8 T p).liS 1).liS 2).mv, 0, [], ((At8 T p).liS 1).li 2⟩, (((At8 T p).liS 1).liS 2).mvS) := (if_neg (by rw [g1]; exact k0)).trans (if_pos (by rw [g1]; exact k64))
    rw [ef, g1, g2, d1, d2, m1, m2]
    simp only [List.append_assoc]
  rw [if_neg k64] at hok
  by_cases k16 : k = 16 ∨ k = 18
  · rw [if_pos k16] at hok
    simp only [Bool.and_eq_true, decide_eq_true_eq] at hok
    obtain ⟨⟨⟨⟨⟨⟨⟨hst, hc⟩, hi⟩, hs0⟩, hs1⟩, hl0⟩, hl1⟩, hm⟩ := hok
    subst hc hi
    obtain ⟨s, rfl⟩ : ∃ s : Nat, sp = (s : Int) := ⟨sp.toNat, by omega⟩
    obtain ⟨kk, rfl⟩ : ∃ kk : Nat, k = (kk : Int) := ⟨k.toNat, by omega⟩
    have eB : fillB ⟨(kk : Int), [0, 0, 0, 0], m, (s : Int), st, 0⟩ = by1 kk ++ (matB m ++ by1 (64 * s + st.length) ++ st.flatMap stopB) := by
      unfold fillB
      dsimp only
      rw [if_neg k0, if_neg k64, Int.toNat_natCast, Int.toNat_natCast]
    rw [eB] at h ⊢
    obtain ⟨g1, g2⟩ := li1_back (T := T) (p := p) (q := matB m ++ by1 (64 * s + st.length) ++ st.flatMap stopB ++ q) (v := kk) (by rw [h]; simp only [List.append_assoc]) (by omega)
    obtain ⟨m1, m2⟩ := mv_back (T := T) (p := p ++ by1 kk) (q := by1 (64 * s + st.length) ++ st.flatMap stopB ++ q) (m := m) (by rw [h]; simp only [List.append_assoc]) hm
    obtain ⟨d1, d2⟩ := li1_back (T := T) (p := p ++ by1 kk ++ matB m) (q := st.flatMap stopB ++ q) (v := 64 * s + st.length) (by rw [h]; simp only [List.append_assoc]) (by omega)
    have hs := stops_back (T := T) (p := p ++ by1 kk ++ matB m ++ by1 (64 * s + st.length)) (q := q) (st := st) (by rw [h]; simp only [List.append_assoc]) hst st.length (Nat.le_refl _)
    rw [List.take_length] at hs
    have egr : grX (At8 T (p ++ by1 kk)) = At8 T (p ++ by1 kk ++ matB m ++ by1 (64 * s + st.length)) := by
      unfold grX
      rw [m2, d1, d2]
      have hb : grBad ((64 * s + st.length : Nat) : Int) = false := by
        unfold grBad
        rw [decide_eq_false (show ¬ ((64 * s + st.length : Nat) : Int) / 64 > 2 by omega), decide_eq_false (show ¬ ((64 * s + st.length : Nat) : Int) / 16 % 4 > 0 by omega), decide_eq_false (show ¬ ((64 * s + st.length : Nat) : Int) % 16 = 0 by omega), decide_eq_false (show ¬ ((64 * s + st.length : Nat) : Int) % 16 > 8 by omega)]
        rfl
      rw [hb, RS.dem_no]
    have ef : fillT (At8 T p) = (⟨(At8 T p).li 1, [0, 0, 0, 0], ((At8 T p).liS 1).mv, ((At8 T p).liS 1).mvS.li 1 / 64, (stopsT (grX ((At8 T p).liS 1)) (((At8 T p).liS 1).mvS.li 1 % 16).toNat).1, 0⟩, (stopsT (grX ((At8 T p).liS 1)) (((At8 T p).liS 1).mvS.li 1 % 16).toNat).2) := (if_neg (by rw [g1]; exact k0)).trans ((if_neg (by rw [g1]; exact k64)).trans (if_pos (by rw [g1]; exact k16)))
    have e64 : ((64 * s + st.length : Nat) : Int) / 64 = (s : Int) := by omega
    have e16 : (((64 * s + st.length : Nat) : Int) % 16).toNat = st.length := by omega
    rw [ef, g1, g2, egr, m1, m2, d1, e64, e16, hs]
    simp only [List.append_assoc]
  · rw [if_neg k16] at hok
    cases hok
theorem fills_back {T p q : List UInt8} {Fs : List FV} (h : T = p ++ (Fs.flatMap fillB ++ q)) (hok : Fs.all fillOk = true) : ∀ k, k ≤ Fs.length → fillsT (At8 T p) k = (Fs.take k, At8 T (p ++ (Fs.take k).flatMap fillB))
  | 0, _ => by simp [fillsT]
  | k + 1, hk => by
    have hlt : k < Fs.length := hk
    have ih := fills_back h hok k (by omega)
    show fillStep (fillsT (At8 T p) k) = _
    rw [ih]
    have hT : T = (p ++ (Fs.take k).flatMap fillB) ++ (fillB Fs[k] ++ ((Fs.drop (k + 1)).flatMap fillB ++ q)) := by
      rw [h, take_drop_flat fillB Fs k hlt]
      simp only [List.append_assoc]
    have hb := fill_back hT (List.all_eq_true.1 hok _ (List.getElem_mem hlt))
    have e1 : fillStep (Fs.take k, At8 T (p ++ (Fs.take k).flatMap fillB)) = (Fs.take k ++ [(fillT (At8 T (p ++ (Fs.take k).flatMap fillB))).1], (fillT (At8 T (p ++ (Fs.take k).flatMap fillB))).2) := if_pos rfl
    rw [e1, hb, flat_take fillB Fs k hlt, List.take_succ_eq_append_getElem hlt]
    simp only [List.append_assoc]
theorem strokeL_len {x : List Int} (h : strokeL x = true) : ∃ (v : Nat) (r g b a : Int), x = [(v : Int), r, g, b, a] ∧ v < 65536 ∧ rgbaOk r g b a = true := by
  unfold strokeL at h
  split at h
  · rename_i x0 r g b a
    unfold strokeOk at h
    simp only [Bool.and_eq_true, decide_eq_true_eq] at h
    exact ⟨x0.toNat, r, g, b, a, by rw [Int.toNat_of_nonneg h.1.1], by omega, h.2⟩
  · cases h
theorem lines_back {T p q : List UInt8} {xs : List (List Int)} (h : T = p ++ (xs.flatMap lineB ++ q)) (hok : xs.all strokeL = true) : ∀ k, k ≤ xs.length → linesT (At8 T p) k = (xs.take k, At8 T (p ++ (xs.take k).flatMap lineB))
  | 0, _ => by simp [linesT]
  | k + 1, hk => by
    have hlt : k < xs.length := hk
    have ih := lines_back h hok k (by omega)
    show lineStep (linesT (At8 T p) k) = _
    rw [ih]
    have hT : T = (p ++ (xs.take k).flatMap lineB) ++ (lineB xs[k] ++ ((xs.drop (k + 1)).flatMap lineB ++ q)) := by
      rw [h, take_drop_flat lineB xs k hlt]
      simp only [List.append_assoc]
    have hnx : (xs.take (k + 1)).flatMap lineB = (xs.take k).flatMap lineB ++ lineB xs[k] := flat_take lineB xs k hlt
    obtain ⟨v, r, g, b, a, hx, hv, hk4⟩ := strokeL_len (List.all_eq_true.1 hok _ (List.getElem_mem hlt))
    rw [List.take_succ_eq_append_getElem hlt] at *
    rw [hx] at hT hnx ⊢
    have hsb : lineB [(v : Int), r, g, b, a] = by2 v ++ by4L [r, g, b, a] := rfl
    rw [hsb] at hT hnx
    obtain ⟨g1, g2⟩ := li2_back (T := T) (p := p ++ (xs.take k).flatMap lineB) (q := by4L [r, g, b, a] ++ ((xs.drop (k + 1)).flatMap lineB ++ q)) (v := v) (by rw [hT]; simp only [List.append_assoc]) hv
    obtain ⟨c1, c2⟩ := cv_back (T := T) (p := p ++ (xs.take k).flatMap lineB ++ by2 v) (q := (xs.drop (k + 1)).flatMap lineB ++ q) (c := [r, g, b, a]) (by rw [hT]; simp only [List.append_assoc]) hk4
    have e1 : lineStep (xs.take k, At8 T (p ++ (xs.take k).flatMap lineB)) = (xs.take k ++ [(At8 T (p ++ (xs.take k).flatMap lineB)).li 2 :: ((At8 T (p ++ (xs.take k).flatMap lineB)).liS 2).cv], ((At8 T (p ++ (xs.take k).flatMap lineB)).liS 2).cvS) := if_pos rfl
    rw [e1, g1, g2, c1, c2, hnx]
    simp only [List.append_assoc]
theorem take_back {T p q : List UInt8} {Fs : List FV} {xs : List (List Int)} (h : T = p ++ (listB Fs xs ++ q)) (hok : listsOk Fs xs = true) : takeF (At8 T p) = Fs ∧ takeL (At8 T p) = xs ∧ takeX (At8 T p) = At8 T (p ++ listB Fs xs) := by
  unfold listsOk at hok
  simp only [Bool.and_eq_true, decide_eq_true_eq] at hok
  obtain ⟨⟨⟨h1, h2⟩, h3⟩, h4⟩ := hok
  have eB : listB Fs xs = by1 Fs.length ++ Fs.flatMap fillB ++ by1 xs.length ++ xs.flatMap lineB := rfl
  rw [eB] at h ⊢
  obtain ⟨n1, n2⟩ := li1_back (T := T) (p := p) (q := Fs.flatMap fillB ++ by1 xs.length ++ xs.flatMap lineB ++ q) (v := Fs.length) (by rw [h]; simp only [List.append_assoc]) (by omega)
  have c1 : cntX (At8 T p) = At8 T (p ++ by1 Fs.length) := by
    unfold cntX
    rw [n1, n2, decide_eq_false (show ¬ (15 : Int) < (Fs.length : Int) by omega), RS.dem_no]
  have f := fills_back (T := T) (p := p ++ by1 Fs.length) (q := by1 xs.length ++ xs.flatMap lineB ++ q) (Fs := Fs) (by rw [h]; simp only [List.append_assoc]) h1 Fs.length (Nat.le_refl _)
  rw [List.take_length] at f
  have fx : fillsX (At8 T p) = (Fs, At8 T (p ++ by1 Fs.length ++ Fs.flatMap fillB)) := by
    unfold fillsX
    rw [c1, n1, Int.toNat_natCast, f]
  obtain ⟨m1, m2⟩ := li1_back (T := T) (p := p ++ by1 Fs.length ++ Fs.flatMap fillB) (q := xs.flatMap lineB ++ q) (v := xs.length) (by rw [h]; simp only [List.append_assoc]) (by omega)
  have c2 : cntX (At8 T (p ++ by1 Fs.length ++ Fs.flatMap fillB)) = At8 T (p ++ by1 Fs.length ++ Fs.flatMap fillB ++ by1 xs.length) := by
    unfold cntX
    rw [m1, m2, decide_eq_false (show ¬ (15 : Int) < (xs.length : Int) by omega), RS.dem_no]
  have l := lines_back (T := T) (p := p ++ by1 Fs.length ++ Fs.flatMap fillB ++ by1 xs.length) (q := q) (xs := xs) (by rw [h]; simp only [List.append_assoc]) h2 xs.length (Nat.le_refl _)
  rw [List.take_length] at l
  have lx : linesX (fillsX (At8 T p)).2 = (xs, At8 T (p ++ by1 Fs.length ++ Fs.flatMap fillB ++ by1 xs.length ++ xs.flatMap lineB)) := by
    rw [fx]
    show linesT (cntX (At8 T (p ++ by1 Fs.length ++ Fs.flatMap fillB))) ((At8 T (p ++ by1 Fs.length ++ Fs.flatMap fillB)).li 1).toNat = _
    rw [c2, m1, Int.toNat_natCast, l]
  have te : takeE (At8 T p) = At8 T (p ++ by1 Fs.length ++ Fs.flatMap fillB ++ by1 xs.length ++ xs.flatMap lineB) := by
    unfold takeE
    rw [lx]
  have t0 : (takeE (At8 T p)).e = 0 := by rw [te]; rfl
  obtain ⟨_, r1, r2, r3, _⟩ := take_right _ t0
  refine ⟨by rw [r1, fx], by rw [r2, lx], ?_⟩
  rw [r3, te]
  simp only [List.append_assoc]
end Go.Proofs.Ythlnjipefeglpaa
namespace Go.Proofs.Ythlnjipefeglpaa
open Go.RowKit
set_option linter.unusedVariables false
end Go.Proofs.Ythlnjipefeglpaa
