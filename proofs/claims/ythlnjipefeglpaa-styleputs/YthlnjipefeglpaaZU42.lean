import Derived.Test.YthlnjipefeglpaaZU41
import Derived.Test.YthlnjipefeglpaaZU9
import Derived.Test.YthlnjipefeglpaaZU7
import Derived.Test.YthlnjipefeglpaaZU16
import Derived.Test.YthlnjipefeglpaaZU13
namespace Go.Proofs.Ythlnjipefeglpaa
open Go.RowKit
set_option linter.unusedVariables false
set_option maxRecDepth 100000
theorem liS_e {x : RS} {n : Int} (h : (x.liS n).e = 0) : x.e = 0 := by
  unfold RS.liS at h
  split at h
  · assumption
  · exact h
theorem cvS_e {x : RS} (h : x.cvS.e = 0) : x.e = 0 := by
  unfold RS.cvS at h
  split at h
  · assumption
  · exact h
theorem mvS_e {x : RS} (h : x.mvS.e = 0) : x.e = 0 ∧ matOkL x.mv = true := by
  unfold RS.mvS at h
  unfold RS.mv
  split at h
  · rename_i he
    refine ⟨he, ?_⟩
    rw [if_pos he]
    unfold matV
    rw [if_pos h]
    exact fin_ok h
  · rename_i he; exact absurd h he
theorem dem_e {x : RS} {c : Bool} {e : Int} (h : (x.dem c e).e = 0) (he : e ≠ 0) : x.e = 0 ∧ c = false ∧ x.dem c e = x := by
  unfold RS.dem at h
  split at h
  · exact absurd h he
  · rename_i hn
    cases c
    · exact ⟨h, rfl, RS.dem_no _ _⟩
    · exact absurd ⟨h, rfl⟩ hn
theorem stopStep_e {st : List (List Int) × RS} (h : (stopStep st).2.e = 0) : st.2.e = 0 ∧ (st.2.liS 1).e = 0 ∧ lastR 0 st.1 ≤ st.2.li 1 ∧ stopStep st = (st.1 ++ [st.2.li 1 :: (st.2.liS 1).cv], (st.2.liS 1).cvS) ∧ (st.2.liS 1).cvS.e = 0 := by
  by_cases he : st.2.e = 0
  · have e1 : stopStep st = (st.1 ++ [st.2.li 1 :: (stopX st.1 st.2).cv], (stopX st.1 st.2).cvS) := if_pos he
    rw [e1] at h
    obtain ⟨h1, h2, h3⟩ := dem_e (cvS_e h) (by decide)
    have h4 : stopX st.1 st.2 = st.2.liS 1 := h3
    rw [h4] at e1 h
    exact ⟨he, h1, by have := of_decide_eq_false h2; omega, e1, h⟩
  · have e1 : stopStep st = st := if_neg he
    rw [e1] at h
    exact absurd h he
theorem stops_right (u : RS) : ∀ k, (stopsT u k).2.e = 0 → stopsFrom 0 (stopsT u k).1 = true ∧ (stopsT u k).1.length = k ∧ u.e = 0
  | 0, h => ⟨rfl, rfl, h⟩
  | k + 1, h => by
    obtain ⟨h1, h2, h3, h4, h5⟩ := stopStep_e (st := stopsT u k) h
    obtain ⟨i1, i2, i3⟩ := stops_right u k h1
    have e1 : stopsT u (k + 1) = _ := h4
    rw [e1]
    refine ⟨?_, by simp [i2], i3⟩
    have hb := (li1_bd (stopsT u k).2).2
    rw [stops_snoc, i1]
    show (true && (decide (lastR 0 (stopsT u k).1 ≤ (stopsT u k).2.li 1) && decide ((stopsT u k).2.li 1 ≤ 255) && rgbaL ((stopsT u k).2.liS 1).cv)) = true
    rw [decide_eq_true h3, decide_eq_true hb, cv_ok]
    rfl
theorem grX_e {y : RS} (h : (grX y).e = 0) : y.e = 0 ∧ matOkL y.mv = true ∧ grBad (y.mvS.li 1) = false ∧ grX y = y.mvS.liS 1 := by
  obtain ⟨h1, h2, h3⟩ := dem_e (x := y.mvS.liS 1) h (by decide)
  obtain ⟨g1, g2⟩ := mvS_e (liS_e h1)
  exact ⟨g1, g2, h2, h3⟩
theorem fillT_right (x : RS) (h : (fillT x).2.e = 0) : fillOk (fillT x).1 = true ∧ x.e = 0 := by
  by_cases k0 : x.li 1 = 0
  · have ef : fillT x = (⟨0, (x.liS 1).cv, [0, 0, 0, 0, 0, 0], 0, [], 0⟩, (x.liS 1).cvS) := if_pos k0
    rw [ef] at h ⊢
    refine ⟨?_, liS_e (cvS_e h)⟩
    show (decide ([(0 : Int), 0, 0, 0, 0, 0] = [0, 0, 0, 0, 0, 0]) && decide ((0 : Int) = 0) && decide ((0 : Int) = 0) && decide (([] : List (List Int)).length = 0) && rgbaL (x.liS 1).cv) = true
    rw [cv_ok]
    rfl
  by_cases k64 : x.li 1 = 64 ∨ x.li 1 = 65
  · have ef : fillT x = (⟨x.li 1, [0, 0, 0, 0], ((x.liS 1).liS 2).mv, 0, [], (x.liS 1).li 2⟩, ((x.liS 1).liS 2).mvS) := (if_neg k0).trans (if_pos k64)
    rw [ef] at h ⊢
    obtain ⟨h1, h2⟩ := mvS_e h
    refine ⟨?_, liS_e (liS_e h1)⟩
    unfold fillOk
    dsimp only
    rw [if_neg k0, if_pos k64]
    have hb := li2_bd (x.liS 1)
    rw [decide_eq_true hb.1, decide_eq_true (show (x.liS 1).li 2 < 65536 by omega), h2]
    rfl
  by_cases k16 : x.li 1 = 16 ∨ x.li 1 = 18
  · have ef : fillT x = (⟨x.li 1, [0, 0, 0, 0], (x.liS 1).mv, (x.liS 1).mvS.li 1 / 64, (stopsT (grX (x.liS 1)) ((x.liS 1).mvS.li 1 % 16).toNat).1, 0⟩, (stopsT (grX (x.liS 1)) ((x.liS 1).mvS.li 1 % 16).toNat).2) := (if_neg k0).trans ((if_neg k64).trans (if_pos k16))
    rw [ef] at h ⊢
    obtain ⟨h1, h2, h3⟩ := stops_right _ _ h
    obtain ⟨g1, g2, g3, g4⟩ := grX_e h3
    refine ⟨?_, liS_e g1⟩
    have hb := li1_bd (x.liS 1).mvS
    unfold grBad at g3
    simp only [Bool.or_eq_false_iff, decide_eq_false_iff_not] at g3
    unfold fillOk
    dsimp only
    rw [if_neg k0, if_neg k64, if_pos k16, h1, h2, g2]
    generalize (x.liS 1).mvS.li 1 = n at *
    rw [decide_eq_true (show 0 ≤ n / 64 by omega), decide_eq_true (show n / 64 < 3 by omega), decide_eq_true (show 0 < (n % 16).toNat by omega), decide_eq_true (show (n % 16).toNat < 9 by omega)]
    rfl
  · have ef : fillT x = (⟨x.li 1, [0, 0, 0, 0], [0, 0, 0, 0, 0, 0], 0, [], 0⟩, (x.liS 1).dem true 3) := (if_neg k0).trans ((if_neg k64).trans (if_neg k16))
    rw [ef] at h
    obtain ⟨_, h2, _⟩ := dem_e h (by decide)
    cases h2
theorem fills_right (u : RS) : ∀ k, (fillsT u k).2.e = 0 → (fillsT u k).1.all fillOk = true ∧ (fillsT u k).1.length = k ∧ u.e = 0
  | 0, h => ⟨rfl, rfl, h⟩
  | k + 1, h => by
    have hs : (fillStep (fillsT u k)).2.e = 0 := h
    by_cases he : (fillsT u k).2.e = 0
    · obtain ⟨i1, i2, i3⟩ := fills_right u k he
      have e1 : fillsT u (k + 1) = ((fillsT u k).1 ++ [(fillT (fillsT u k).2).1], (fillT (fillsT u k).2).2) := if_pos he
      rw [e1] at h ⊢
      have := (fillT_right _ h).1
      exact ⟨by simp [i1, this], by simp [i2], i3⟩
    · have e1 : fillStep (fillsT u k) = fillsT u k := if_neg he
      rw [e1] at hs
      exact absurd hs he
theorem lines_right (u : RS) : ∀ k, (linesT u k).2.e = 0 → (linesT u k).1.all strokeL = true ∧ (linesT u k).1.length = k ∧ u.e = 0
  | 0, h => ⟨rfl, rfl, h⟩
  | k + 1, h => by
    have hs : (lineStep (linesT u k)).2.e = 0 := h
    by_cases he : (linesT u k).2.e = 0
    · obtain ⟨i1, i2, i3⟩ := lines_right u k he
      have e1 : linesT u (k + 1) = ((linesT u k).1 ++ [(linesT u k).2.li 2 :: ((linesT u k).2.liS 2).cv], ((linesT u k).2.liS 2).cvS) := if_pos he
      rw [e1] at h ⊢
      have hb := li2_bd (linesT u k).2
      have hc := cv_ok ((linesT u k).2.liS 2)
      have hl := cv_len ((linesT u k).2.liS 2)
      refine ⟨?_, by simp [i2], i3⟩
      rw [List.all_append, i1]
      obtain ⟨r, g, b, a, hcv⟩ := list4 _ hl
      rw [hcv] at hc ⊢
      generalize (linesT u k).2.li 2 = v at *
      show (true && (decide (0 ≤ v) && decide (v < 65536) && rgbaOk r g b a && true)) = true
      have hc2 : rgbaOk r g b a = true := hc
      rw [hc2, decide_eq_true hb.1, decide_eq_true (show v < 65536 by omega)]
      rfl
    · have e1 : lineStep (linesT u k) = linesT u k := if_neg he
      rw [e1] at hs
      exact absurd hs he
theorem cntX_e {x : RS} (h : (cntX x).e = 0) : (x.liS 1).e = 0 ∧ x.li 1 ≤ 15 ∧ cntX x = x.liS 1 := by
  obtain ⟨h1, h2, h3⟩ := dem_e (x := x.liS 1) h (by decide)
  exact ⟨h1, by have := of_decide_eq_false h2; omega, h3⟩
theorem take_right (x : RS) (h : (takeE x).e = 0) : listsOk (takeF x) (takeL x) = true ∧ takeF x = (fillsX x).1 ∧ takeL x = (linesX (fillsX x).2).1 ∧ takeX x = takeE x ∧ (fillsX x).2.e = 0 ∧ (cntX x).e = 0 ∧ (cntX (fillsX x).2).e = 0 := by
  have e1 : takeF x = (fillsX x).1 := if_pos h
  have e2 : takeL x = (linesX (fillsX x).2).1 := if_pos h
  have e3 : takeX x = takeE x := if_pos h
  obtain ⟨l1, l2, l3⟩ := lines_right _ _ h
  obtain ⟨c1, c2, _⟩ := cntX_e l3
  obtain ⟨f1, f2, f3⟩ := fills_right _ _ (liS_e c1)
  obtain ⟨d1, d2, _⟩ := cntX_e f3
  refine ⟨?_, e1, e2, e3, liS_e c1, f3, l3⟩
  rw [e1, e2]
  have f1' : (fillsX x).1.all fillOk = true := f1
  have l1' : (linesX (fillsX x).2).1.all strokeL = true := l1
  have f2' : (fillsX x).1.length = (x.li 1).toNat := f2
  have l2' : (linesX (fillsX x).2).1.length = ((fillsX x).2.li 1).toNat := l2
  unfold listsOk
  rw [f1', l1', f2', l2', decide_eq_true (show (x.li 1).toNat < 16 by omega), decide_eq_true (show ((fillsX x).2.li 1).toNat < 16 by omega)]
  rfl
theorem take_wrong (x : RS) (h : (takeE x).e ≠ 0) : takeF x = [] ∧ takeL x = [] ∧ takeX x = ⟨⟨#[]⟩, 0, (takeE x).e⟩ := ⟨if_neg h, if_neg h, if_neg h⟩
end Go.Proofs.Ythlnjipefeglpaa
namespace Go.Proofs.Ythlnjipefeglpaa
open Go.RowKit
set_option linter.unusedVariables false
namespace B
def Agree (l l' : List UInt8) (m : Nat) : Prop := m ≤ 8 * l.length ∧ m ≤ 8 * l'.length ∧ bv l' / P2 (8 * l'.length - m) = bv l / P2 (8 * l.length - m)
theorem agree_less {l l' : List UInt8} {m k : Nat} (h : Agree l l' m) (hk : k ≤ m) : Agree l l' k := by
  obtain ⟨h1, h2, h3⟩ := h
  refine ⟨by omega, by omega, ?_⟩
  have e1 : 8 * l'.length - k = (8 * l'.length - m) + (m - k) := by omega
  have e2 : 8 * l.length - k = (8 * l.length - m) + (m - k) := by omega
  rw [e1, e2, ← div_div, ← div_div, h3]
theorem agree_fld {l l' : List UInt8} {m : Nat} (h : Agree l l' m) (p n : Nat) (hp : p + n ≤ m) : fld l' p n = fld l p n := by
  have h2 := (agree_less h hp).2.2
  unfold fld
  rw [h2]
theorem putL_fld (l : List UInt8) (f v n : Nat) (hf : f ≤ 8 * l.length) (hv : v < P2 n) : fld (putL l f v n) (8 * l.length - f) n = v := by
  have hN := putN_eq l.length f n
  have hh := putL_head l f v n hf hv
  unfold fld
  rw [putL_len, show 8 * putN l.length f n - (8 * l.length - f + n) = putF l.length f n by omega, hh, mul_add_mod _ _ _ hv]
theorem app_agree (l t : List UInt8) (f : Nat) : Agree l (l ++ t) (8 * l.length - f) := by
  refine agree_less (m := 8 * l.length) ⟨by omega, by rw [List.length_append]; omega, ?_⟩ (by omega)
  rw [List.length_append, bv_append, show 8 * (l.length + t.length) - 8 * l.length = 8 * t.length by omega, mul_add_div _ _ _ (bv_lt t), Nat.sub_self, P2_zero, Nat.div_one]
end B
structure Fd where
  k : Int
  v : Int
  n : Int
def Fd.kind (p : Fd) : Nat := (p.k % 4).toNat
def Fd.ok (p : Fd) : Bool := if p.kind = 0 then ppOk p.v p.n else if p.kind = 1 then psOk p.v p.n else if p.kind = 2 then ltOk p.v p.n else true
def Fd.put (p : Fd) (x : List UInt8 × Nat) : List UInt8 × Nat :=
  if p.kind = 0 then (B.putL x.1 x.2 p.v.toNat p.n.toNat, B.putF x.1.length x.2 p.n.toNat)
  else if p.kind = 1 then (B.putL x.1 x.2 (sgU p.v p.n.toNat) p.n.toNat, B.putF x.1.length x.2 p.n.toNat)
  else if p.kind = 2 then (x.1 ++ B.le p.n.toNat p.v.toNat, 0) else (x.1, 0)
def Fd.fit (p : Fd) : Prop := -9223372036854775808 ≤ p.v ∧ p.v ≤ 9223372036854775807
def wrF (ps : List Fd) : List UInt8 × Nat := ps.foldl (fun x p => p.put x) ([], 0)
def pos (x : List UInt8 × Nat) : Nat := 8 * x.1.length - x.2
end Go.Proofs.Ythlnjipefeglpaa
namespace Go.Proofs.Ythlnjipefeglpaa
open Go.RowKit
set_option linter.unusedVariables false
theorem fld_left (l t : List UInt8) (p n : Nat) (h : p + n ≤ 8 * l.length) : B.fld (l ++ t) p n = B.fld l p n :=
  B.agree_fld (B.app_agree l t 0) p n (by omega)
theorem fld_right (l m : List UInt8) (p n : Nat) (h : p + n ≤ 8 * m.length) : B.fld (l ++ m) (8 * l.length + p) n = B.fld m p n := by
  unfold B.fld
  rw [List.length_append, B.bv_append, show 8 * (l.length + m.length) - (8 * l.length + p + n) = 8 * m.length - (p + n) by omega]
  obtain ⟨d, hd⟩ : ∃ d, d = 8 * m.length - (p + n) := ⟨_, rfl⟩
  rw [← hd, show 8 * m.length = d + (n + p) by omega, B.P2_add, ← Nat.mul_assoc, Nat.mul_right_comm, Nat.mul_comm (B.bv l * B.P2 (n + p)) (B.P2 d), Nat.mul_add_div (B.P2_pos d), B.P2_add, ← Nat.mul_assoc, Nat.mul_right_comm, Nat.mul_comm _ (B.P2 n), Nat.mul_add_mod]
def St (x : RS) (fs : List (Nat × Nat)) : Prop := x.e = 0 ∧ 0 ≤ x.a ∧ x.a.toNat + F.len fs ≤ 8 * x.s.size ∧ B.fld x.s.data.toList x.a.toNat (F.len fs) = F.num fs
theorem st_cons {x : RS} {v n : Nat} {fs : List (Nat × Nat)} (h : St x ((v, n) :: fs)) (hv : v < B.P2 n) (hok : F.ok fs) (hn : n ≤ 31) :
    x.pl n = v ∧ St (x.go n) fs ∧ (x.go n).s = x.s ∧ (x.go n).a = x.a + n := by
  obtain ⟨he, ha, hl, hf⟩ := h
  have hl' : x.a.toNat + (n + F.len fs) ≤ 8 * x.s.size := hl
  have hf' : B.fld x.s.data.toList x.a.toNat (n + F.len fs) = v * B.P2 (F.len fs) + F.num fs := hf
  rw [B.fld_split _ _ _ _ (by rw [bytes_length]; omega)] at hf'
  have h1 := B.fld_lt x.s.data.toList (x.a.toNat + n) (F.len fs)
  have h2 := F.num_lt hok
  have e1 := congrArg (· / B.P2 (F.len fs)) hf'
  have e2 := congrArg (· % B.P2 (F.len fs)) hf'
  simp only [B.mul_add_div _ _ _ h1, B.mul_add_div _ _ _ h2, B.mul_add_mod _ _ _ h1, B.mul_add_mod _ _ _ h2] at e1 e2
  have hE : plE x.s.size x.a n = 0 := by
    unfold plE
    rw [if_pos (by omega), if_neg (by omega)]
  obtain ⟨g1, g2, g3⟩ := RS.fine he (n : Int)
  have gv : plV x.s x.a n = v := by unfold plV; rw [if_pos hE, Int.toNat_natCast, e1]
  have gs : plS x.s x.a n = x.s := if_pos hE
  have ga : plA x.s x.a n = x.a + n := if_pos hE
  rw [g1, g3, gv, gs, ga]
  refine ⟨rfl, ⟨hE, ?_, ?_, ?_⟩, rfl, rfl⟩
  · show 0 ≤ x.a + n; omega
  · show (x.a + n).toNat + F.len fs ≤ 8 * x.s.size; omega
  · show B.fld x.s.data.toList (x.a + n).toNat (F.len fs) = F.num fs
    rw [show (x.a + n).toNat = x.a.toNat + n by omega, e2]
theorem sg_of_pl {x : RS} {z : Int} {n : Nat} (h : x.pl n = sgU z n) (he : x.e = 0) (hn : n ≤ 31) (hw : wd z ≤ n) (hz : I64 z) : x.sg n = z := by
  have hu := sgU_lt z n hz.1 hz.2 hn hw
  obtain ⟨g1, g2, g3⟩ := RS.fine he (n : Int)
  rw [g1] at h
  rw [g2]
  unfold sgV
  rw [h, Int.toNat_natCast, Int.toNat_natCast]
  have h2 := hu.2
  have h3 := hu.1
  unfold sgU at *
  by_cases hneg : z < 0
  · have := h2.1 hneg
    simp only [if_pos hneg] at *
    have hN0 : 0 < n := by
      apply Nat.pos_of_ne_zero
      intro h0
      subst h0
      have := wd_pos z (by omega)
      omega
    rw [if_pos (by omega)]
    omega
  · have := h2.2 (by omega)
    simp only [if_neg hneg] at *
    rw [if_neg (by omega)]
    omega
theorem st_list {n : Nat} (hn : n ≤ 31) {fs : List (Nat × Nat)} (hfs : F.ok fs) : ∀ (l : List Int) (x : RS), (∀ z ∈ l, wd z ≤ n ∧ I64 z) → St x (l.map (fun z => (sgU z n, n)) ++ fs) →
    x.l n l.length = l ∧ St (x.on n l.length) fs ∧ (x.on n l.length).s = x.s ∧ (x.on n l.length).a = x.a + l.length * n
  | [], x, _, h => ⟨rfl, h, rfl, by simp [RS.on]⟩
  | z :: l, x, hl, h => by
    obtain ⟨hw, hz⟩ := hl z (by simp)
    have hv := (sgU_lt z n hz.1 hz.2 hn hw).1
    have hok : F.ok (l.map (fun z => (sgU z n, n)) ++ fs) := F.ok_app (fun p hp => by
      obtain ⟨y, hy, rfl⟩ := List.mem_map.1 hp
      obtain ⟨hw, hz⟩ := hl y (by simp [hy])
      exact (sgU_lt y n hz.1 hz.2 hn hw).1) hfs
    obtain ⟨p1, p2, p3, p4⟩ := st_cons h hv hok hn
    obtain ⟨q1, q2, q3, q4⟩ := st_list hn hfs l (x.go n) (fun y hy => hl y (by simp [hy])) p2
    rw [List.length_cons, RS.l_succ, RS.on_succ, q1, sg_of_pl p1 h.1 hn hw hz]
    refine ⟨rfl, q2, q3.trans p3, ?_⟩
    rw [q4, p4]
    push_cast
    rw [Int.add_mul]
    omega
theorem st_nums {h : Nat} {l : List Int} {fs : List (Nat × Nat)} {x : RS} (hh : h ≤ 31) (h1 : mxW l < B.P2 h) (h2 : mxW l ≤ 31) (hb : ∀ z ∈ l, I64 z) (hfs : F.ok fs) (hx : St x (F.nums h l ++ fs)) :
    x.sevL h l.length = l ∧ St (x.sevS h l.length) fs ∧ (x.sevS h l.length).s = x.s ∧ (x.sevS h l.length).a = x.a + (h + l.length * mxW l) := by
  have hx' : St x ((mxW l, h) :: (l.map (fun z => (sgU z (mxW l), mxW l)) ++ fs)) := hx
  have hok : F.ok (l.map (fun z => (sgU z (mxW l), mxW l)) ++ fs) := F.ok_app (fun p hp => by
    obtain ⟨y, hy, rfl⟩ := List.mem_map.1 hp
    have hz := hb y hy
    exact (sgU_lt y (mxW l) hz.1 hz.2 h2 (F.mxW_mem hy)).1) hfs
  obtain ⟨p1, p2, p3, p4⟩ := st_cons hx' h1 hok hh
  obtain ⟨q1, q2, q3, q4⟩ := st_list h2 hfs l (x.go h) (fun z hz => ⟨F.mxW_mem hz, hb z hz⟩) p2
  unfold RS.sevL RS.sevS
  rw [p1]
  refine ⟨q1, q2, q3.trans p3, ?_⟩
  rw [q4, p4]
  omega
theorem st_begin (pre post : List UInt8) (fs : List (Nat × Nat)) (hok : F.ok fs) : St (RS.begP (bs (pre ++ F.bys fs ++ post)) (8 * pre.length : Nat)) fs := by
  have hs : (bs (pre ++ F.bys fs ++ post)).size = pre.length + (F.bys fs).length + post.length := by rw [bs_size]; simp; omega
  have hq := F.fr_eq fs
  have ha : alA (bs (pre ++ F.bys fs ++ post)).size ((8 * pre.length : Nat) : Int) = ((8 * pre.length : Nat) : Int) := by
    unfold alA
    rw [hs, if_pos (by omega)]
    omega
  refine ⟨rfl, ?_, ?_, ?_⟩
  · show 0 ≤ alA _ _; rw [ha]; omega
  · show (alA _ _).toNat + _ ≤ 8 * (bs _).size; rw [ha, Int.toNat_natCast, hs]; omega
  · show B.fld (pre ++ F.bys fs ++ post) (alA _ _).toNat _ = _
    rw [ha, Int.toNat_natCast, fld_left _ _ _ _ (by rw [List.length_append]; omega)]
    have := fld_right pre (F.bys fs) 0 (F.len fs) (by omega)
    rw [Nat.add_zero] at this
    rw [this]
    have := B.putL_fld [] 0 (F.num fs) (F.len fs) (by omega) (F.num_lt hok)
    exact this
end Go.Proofs.Ythlnjipefeglpaa
namespace Go.Proofs.Ythlnjipefeglpaa
open Go.RowKit
set_option linter.unusedVariables false
theorem fin_end {x : RS} {pre : Nat} {fs : List (Nat × Nat)} (he : x.e = 0) (ha : x.a = ((8 * pre + F.len fs : Nat) : Int)) (hl : pre + (F.bys fs).length ≤ x.s.size) : x.fin true = ⟨x.s, ((8 * (pre + (F.bys fs).length) : Nat) : Int), 0⟩ := by
  have hq := F.fr_eq fs
  have hr := F.fr_le fs
  unfold RS.fin
  rw [if_pos he, if_pos rfl]
  congr 1
  unfold alA
  rw [ha, if_pos (by omega)]
  omega
theorem back_rect (pre post : List UInt8) (l r t b : Int) (h : rectOk l r t b = true) :
    rectS (RS.begP (bs (pre ++ F.bys (rectF l r t b) ++ post)) (8 * pre.length : Nat)) = ⟨bs (pre ++ F.bys (rectF l r t b) ++ post), ((8 * (pre.length + (F.bys (rectF l r t b)).length) : Nat) : Int), 0⟩ ∧ rectV (RS.begP (bs (pre ++ F.bys (rectF l r t b) ++ post)) (8 * pre.length : Nat)) = [l, r, t, b] := by
  have hs := st_begin pre post (rectF l r t b) (rectF_ok h)
  obtain ⟨i1, i2, i3, i4⟩ := rect_fit h
  have hw := rect_wd h
  have hb : ∀ z ∈ [l, r, t, b], I64 z := i64_4 i1 i2 i3 i4
  have hx : (RS.begP (bs (pre ++ F.bys (rectF l r t b) ++ post)) (8 * pre.length : Nat)).a = ((8 * pre.length : Nat) : Int) := by
    show alA _ _ = _
    unfold alA
    rw [if_pos (by rw [bs_size]; simp; omega)]
    omega
  have hsz : (RS.begP (bs (pre ++ F.bys (rectF l r t b) ++ post)) (8 * pre.length : Nat)).s = bs (pre ++ F.bys (rectF l r t b) ++ post) := rfl
  generalize RS.begP (bs (pre ++ F.bys (rectF l r t b) ++ post)) (8 * pre.length : Nat) = x at *
  have hs2 : St x (F.nums 5 [l, r, t, b] ++ []) := by rw [List.append_nil]; exact hs
  obtain ⟨q1, q2, q3, q4⟩ := st_nums (h := 5) (by omega) (Nat.lt_of_le_of_lt hw (by decide)) (by omega) hb F.ok_nil hs2
  have q1' : x.sevL 5 4 = [l, r, t, b] := q1
  have q4' : (x.sevS 5 4).a = ((8 * pre.length + F.len (rectF l r t b) : Nat) : Int) := by
    rw [rectF_len]
    have e : (x.sevS 5 4).a = x.a + (5 + 4 * (mxW [l, r, t, b] : Nat)) := q4
    rw [e, hx]
    omega
  have q3' : (x.sevS 5 4).s = bs (pre ++ F.bys (rectF l r t b) ++ post) := by rw [← hsz]; exact q3
  have er : rectS x = ⟨bs (pre ++ F.bys (rectF l r t b) ++ post), ((8 * (pre.length + (F.bys (rectF l r t b)).length) : Nat) : Int), 0⟩ := by
    unfold rectS
    rw [q1', show rectOkL [l, r, t, b] = true from h, fin_end (show (x.sevS 5 4).e = 0 from q2.1) q4' (by rw [q3', bs_size]; simp only [List.length_append]; omega), q3']
  refine ⟨er, ?_⟩
  unfold rectV
  rw [er, if_pos rfl, q1']
theorem st_bit {x : RS} {q : Bool} {fs : List (Nat × Nat)} (h : St x ((b01 q, 1) :: fs)) (hok : F.ok fs) : mB1 x = q ∧ St (x.go 1) fs ∧ (x.go 1).s = x.s ∧ (x.go 1).a = x.a + 1 := by
  obtain ⟨p1, p2, p3, p4⟩ := st_cons h (b01_lt q) hok (by omega)
  refine ⟨?_, p2, p3, p4⟩
  unfold mB1
  rw [show x.pl 1 = ((b01 q : Nat) : Int) from p1]
  cases q <;> rfl
theorem st_opt {x : RS} {q : Bool} {u v : Int} {fs : List (Nat × Nat)} (hok : F.ok fs) (hw : mxW [u, v] ≤ 24) (hu : I64 u) (hv : I64 v)
    (h : St x ((if q = true then [] ++ [(b01 q, 1)] ++ F.nums 5 [u, v] else [] ++ [(b01 q, 1)]) ++ fs)) :
    mB1 x = q ∧ (q = true → (x.go 1).sevL 5 2 = [u, v]) ∧ St (mx2 x) fs ∧ (mx2 x).s = x.s ∧ (mx2 x).a = x.a + F.len (if q = true then [] ++ [(b01 q, 1)] ++ F.nums 5 [u, v] else [] ++ [(b01 q, 1)]) := by
  cases q
  · have h' : St x ((b01 false, 1) :: fs) := h
    obtain ⟨p1, p2, p3, p4⟩ := st_bit h' hok
    have e : mx2 x = x.go 1 := if_neg (by rw [p1]; decide)
    rw [e]
    exact ⟨p1, (fun h => by cases h), p2, p3, p4⟩
  · have h' : St x ((b01 true, 1) :: (F.nums 5 [u, v] ++ fs)) := h
    have hn := nums2_ok hw hu hv
    obtain ⟨p1, p2, p3, p4⟩ := st_bit h' (F.ok_app hn hok)
    have e : mx2 x = (x.go 1).sevS 5 2 := if_pos p1
    obtain ⟨q1, q2, q3, q4⟩ := st_nums (h := 5) (by omega) (Nat.lt_of_le_of_lt hw (by decide)) (by omega) (i64_2 hu hv) hok p2
    rw [e]
    refine ⟨p1, fun _ => q1, q2, q3.trans p3, ?_⟩
    have q4' : ((x.go 1).sevS 5 2).a = (x.go 1).a + (5 + 2 * (mxW [u, v] : Nat)) := q4
    rw [q4', p4]
    have el : F.len (if true = true then [] ++ [(b01 true, 1)] ++ F.nums 5 [u, v] else [] ++ [(b01 true, 1)]) = 1 + (5 + 2 * mxW [u, v]) := by
      rw [if_pos rfl, F.len_app, nums2_len]; rfl
    rw [el]
    omega
theorem beg_start (S : ByteArray) (p : Nat) (h : p ≤ S.size) : (RS.begP S ((8 * p : Nat) : Int)).a = ((8 * p : Nat) : Int) ∧ (RS.begP S ((8 * p : Nat) : Int)).s = S := by
  refine ⟨?_, rfl⟩
  show alA _ _ = _
  unfold alA
  rw [if_pos (by omega)]
  omega
theorem q65_no {a d : Int} (h : q65 a d = false) : a = 65536 ∧ d = 65536 := by
  unfold q65 at h
  simp only [Bool.or_eq_false_iff, bne_eq_false_iff_eq] at h
  exact h
theorem qnz_no {b c : Int} (h : qnz b c = false) : b = 0 ∧ c = 0 := by
  unfold qnz at h
  simp only [Bool.or_eq_false_iff, bne_eq_false_iff_eq] at h
  exact h
theorem back_matrix (pre post : List UInt8) (a b c d x y : Int) (h : matOk a b c d x y = true) :
    matS (RS.begP (bs (pre ++ F.bys (matF a b c d x y) ++ post)) (8 * pre.length : Nat)) = ⟨bs (pre ++ F.bys (matF a b c d x y) ++ post), ((8 * (pre.length + (F.bys (matF a b c d x y)).length) : Nat) : Int), 0⟩ ∧ matV (RS.begP (bs (pre ++ F.bys (matF a b c d x y) ++ post)) (8 * pre.length : Nat)) = [a, b, c, d, x, y] := by
  have m := matFacts h
  obtain ⟨fa, fb, fc, fd, fx, fy⟩ := m.fit
  have hs := st_begin pre post (matF a b c d x y) m.o5
  obtain ⟨hx, hsz⟩ := beg_start (bs (pre ++ F.bys (matF a b c d x y) ++ post)) pre.length (by rw [bs_size]; simp only [List.length_append]; omega)
  generalize RS.begP (bs (pre ++ F.bys (matF a b c d x y) ++ post)) (8 * pre.length : Nat) = z at *
  have hn := nums2_ok (show mxW [x, y] ≤ 24 by have := m.w3; omega) fx fy
  have hs1 : St z (mF2 a d ++ ((if qnz b c = true then [] ++ [(b01 (qnz b c), 1)] ++ F.nums 5 [b, c] else [] ++ [(b01 (qnz b c), 1)]) ++ F.nums 5 [x, y])) := by
    have e : matF a b c d x y = mF2 a d ++ ((if qnz b c = true then [] ++ [(b01 (qnz b c), 1)] ++ F.nums 5 [b, c] else [] ++ [(b01 (qnz b c), 1)]) ++ F.nums 5 [x, y]) := by
      unfold matF mF4 mF3
      cases qnz b c <;> simp
    rw [← e]
    exact hs
  have hok2 : F.ok ((if qnz b c = true then [] ++ [(b01 (qnz b c), 1)] ++ F.nums 5 [b, c] else [] ++ [(b01 (qnz b c), 1)]) ++ F.nums 5 [x, y]) := by
    refine F.ok_app ?_ hn
    split
    · exact F.ok_app (F.ok_one (b01_lt _)) (nums2_ok m.w2 fb fc)
    · exact F.ok_one (b01_lt _)
  obtain ⟨p1, p2, p3, p4, p5⟩ := st_opt hok2 m.w1 fa fd hs1
  obtain ⟨q1, q2, q3, q4, q5⟩ := st_opt hn m.w2 fb fc p3
  have q3' : St (mx2 (mx2 z)) (F.nums 5 [x, y] ++ []) := by rw [List.append_nil]; exact q3
  obtain ⟨r1, r2, r3, r4⟩ := st_nums (h := 5) (by omega) (Nat.lt_of_le_of_lt m.w3 (by decide)) (by have := m.w3; omega) (i64_2 fx fy) F.ok_nil q3'
  have r1' : (mx2 (mx2 z)).sevL 5 2 = [x, y] := r1
  have eA : mAD z = [a, d] := by
    unfold mAD
    rw [p1]
    cases hq : q65 a d
    · obtain ⟨rfl, rfl⟩ := q65_no hq; rfl
    · rw [if_pos rfl, p2 hq]
  have eB : mBC (mx2 z) = [b, c] := by
    unfold mBC
    rw [q1]
    cases hq : qnz b c
    · obtain ⟨rfl, rfl⟩ := qnz_no hq; rfl
    · rw [if_pos rfl, q2 hq]
  have eL : matL z = [a, b, c, d, x, y] := by unfold matL; rw [eA, eB, r1']; rfl
  have es : (mx5 z).s = bs (pre ++ F.bys (matF a b c d x y) ++ post) := by rw [← hsz, ← p4, ← q4]; exact r3
  have el : F.len (matF a b c d x y) = F.len (mF2 a d) + (F.len (if qnz b c = true then [] ++ [(b01 (qnz b c), 1)] ++ F.nums 5 [b, c] else [] ++ [(b01 (qnz b c), 1)]) + (5 + 2 * mxW [x, y])) := by
    have e : matF a b c d x y = mF2 a d ++ ((if qnz b c = true then [] ++ [(b01 (qnz b c), 1)] ++ F.nums 5 [b, c] else [] ++ [(b01 (qnz b c), 1)]) ++ F.nums 5 [x, y]) := by
      unfold matF mF4 mF3
      cases qnz b c <;> simp
    rw [e, F.len_app, F.len_app, nums2_len]
  have ea : (mx5 z).a = ((8 * pre.length + F.len (matF a b c d x y) : Nat) : Int) := by
    have r4' : (mx5 z).a = (mx2 (mx2 z)).a + (5 + 2 * (mxW [x, y] : Nat)) := r4
    have p5' : (mx2 z).a = z.a + F.len (mF2 a d) := p5
    rw [r4', q5, p5', hx, el]
    push_cast
    omega
  have er : matS z = ⟨bs (pre ++ F.bys (matF a b c d x y) ++ post), ((8 * (pre.length + (F.bys (matF a b c d x y)).length) : Nat) : Int), 0⟩ := by
    unfold matS
    rw [eL, show matOkL [a, b, c, d, x, y] = true from h, fin_end (show (mx5 z).e = 0 from r2.1) ea (by rw [es, bs_size]; simp only [List.length_append]; omega), es]
  refine ⟨er, ?_⟩
  unfold matV
  rw [er, if_pos rfl, eL]
end Go.Proofs.Ythlnjipefeglpaa
