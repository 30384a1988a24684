import Derived.Test.YthcejmbjagpjcaaF2
/- Layer 7: whether rectangles, matrices, changes and colours are right; the document's. -/
namespace Go.Proofs.Ythcejmbjagpjcaa
open Go.RowKit
set_option linter.unusedVariables false

theorem in_is (z m : Int) (q : Bool) (hq : nr m z = q) (m0 : 0 ≤ m) (m1 : m ≤ 1000000000) (w : World) :
    Calls Try.prog 36 #[.int .i64 z, .int .i64 m] w fun e w' => e = .returned (.bool q) ∧ w = w' := hq ▸ in_any z m w m0 m1
set_option maxHeartbeats 1000000 in
theorem refmatrix_any (a b c d x y : Int) (w : World) :
    Calls Try.prog 21 #[.agg #[.int .i64 a, .int .i64 b, .int .i64 c, .int .i64 d, .int .i64 x, .int .i64 y]] w fun e w' => e = .returned (.bool (matOk a b c d x y)) ∧ Below w.heap.size w w' := by
  obtain ⟨q0, h0⟩ : ∃ q, nr 4194304 a = q := ⟨_, rfl⟩
  have H0 := Lib.hid (fun w => in_is a 4194304 q0 h0 (by omega) (by omega) w)
  obtain ⟨q1, h1⟩ : ∃ q, nr 4194304 b = q := ⟨_, rfl⟩
  have H1 := Lib.hid (fun w => in_is b 4194304 q1 h1 (by omega) (by omega) w)
  obtain ⟨q2, h2⟩ : ∃ q, nr 4194304 c = q := ⟨_, rfl⟩
  have H2 := Lib.hid (fun w => in_is c 4194304 q2 h2 (by omega) (by omega) w)
  obtain ⟨q3, h3⟩ : ∃ q, nr 4194304 d = q := ⟨_, rfl⟩
  have H3 := Lib.hid (fun w => in_is d 4194304 q3 h3 (by omega) (by omega) w)
  obtain ⟨q4, h4⟩ : ∃ q, nr 1048576 x = q := ⟨_, rfl⟩
  have H4 := Lib.hid (fun w => in_is x 1048576 q4 h4 (by omega) (by omega) w)
  obtain ⟨q5, h5⟩ : ∃ q, nr 1048576 y = q := ⟨_, rfl⟩
  have H5 := Lib.hid (fun w => in_is y 1048576 q5 h5 (by omega) (by omega) w)
  have HR : Hid (matOk a b c d x y = (q0 && q1 && q2 && q3 && q4 && q5)) := Lib.hid (by unfold matOk; simp only [List.all_cons, List.all_nil, h0, h1, h2, h3, h4, h5, Bool.and_true, Bool.and_assoc])
  rw [HR.out]
  clear HR h0 h1 h2 h3 h4 h5
  have hc : (q0 = false) ∨ (q0 = true ∧ q1 = false) ∨ (q0 = true ∧ q1 = true ∧ q2 = false) ∨ (q0 = true ∧ q1 = true ∧ q2 = true ∧ q3 = false) ∨ (q0 = true ∧ q1 = true ∧ q2 = true ∧ q3 = true ∧ q4 = false) ∨ (q0 = true ∧ q1 = true ∧ q2 = true ∧ q3 = true ∧ q4 = true ∧ q5 = false) ∨ (q0 = true ∧ q1 = true ∧ q2 = true ∧ q3 = true ∧ q4 = true ∧ q5 = true) := by
    cases q0 <;> cases q1 <;> cases q2 <;> cases q3 <;> cases q4 <;> cases q5 <;> simp
  rcases hc with rfl | ⟨rfl, rfl⟩ | ⟨rfl, rfl, rfl⟩ | ⟨rfl, rfl, rfl, rfl⟩ | ⟨rfl, rfl, rfl, rfl, rfl⟩ | ⟨rfl, rfl, rfl, rfl, rfl, rfl⟩ | ⟨rfl, rfl, rfl, rfl, rfl, rfl⟩
  all_goals
    go_enter Try.func21, Try.ntmps21
    go_wp2_with (first
      | (refine wl_box 23 _ _ rfl rfl rfl ?_; intro W0 b0 B0 l0 k0; have c0 : W0.cell? ⟨b0, 0, none⟩ = some (.int .i64 a) := B0.cell 0; have c1 : W0.cell? ⟨b0, 1, none⟩ = some (.int .i64 b) := B0.cell 1; have c2 : W0.cell? ⟨b0, 2, none⟩ = some (.int .i64 c) := B0.cell 2; have c3 : W0.cell? ⟨b0, 3, none⟩ = some (.int .i64 d) := B0.cell 3; have c4 : W0.cell? ⟨b0, 4, none⟩ = some (.int .i64 x) := B0.cell 4; have c5 : W0.cell? ⟨b0, 5, none⟩ = some (.int .i64 y) := B0.cell 5)
      | (go_at_call 36; with_reducible refine (H0.out _).mono ?_; rintro e w2 ⟨rfl, rfl⟩) | (go_at_call 36; with_reducible refine (H1.out _).mono ?_; rintro e w3 ⟨rfl, rfl⟩) | (go_at_call 36; with_reducible refine (H2.out _).mono ?_; rintro e w4 ⟨rfl, rfl⟩) | (go_at_call 36; with_reducible refine (H3.out _).mono ?_; rintro e w5 ⟨rfl, rfl⟩) | (go_at_call 36; with_reducible refine (H4.out _).mono ?_; rintro e w6 ⟨rfl, rfl⟩) | (go_at_call 36; with_reducible refine (H5.out _).mono ?_; rintro e w7 ⟨rfl, rfl⟩))
    all_goals (go_ret; exact ⟨ret_bool (by rw [Bool.eq_iff_iff]; simp; try omega), k0⟩)

theorem all_zip (f g : Int → Bool) (a b : List Int) (k : Nat) (ha : k < a.length) (hb : k < b.length) (h1 : ((a.take k).all f && (b.take k).all g) = true) (h2 : f a[k] = true) (h3 : g b[k] = true) : ((a.take (k + 1)).all f && (b.take (k + 1)).all g) = true := by
  rw [Bool.and_eq_true] at *
  exact ⟨all_take f a k ha h1.1 h2, all_take g b k hb h1.2 h3⟩
def CxRel (m d : List Int) (i : Value) : Prop := ∃ k : Nat, k ≤ 4 ∧ i = .int .i64 k ∧ ((m.take k).all (nr 512) && (d.take k).all (nr 255)) = true
set_option maxHeartbeats 1000000 in
theorem refcx_any (m d : List Int) (w : World) (hm : m.length = 4) (hd : d.length = 4) :
    Calls Try.prog 12 #[.agg (iA (m ++ d))] w fun e w' => e = .returned (.bool (cxOk m d)) ∧ Below w.heap.size w w' := by
  go_enter Try.func12, Try.ntmps12
  go_wp2_with (first
    | (refine wl_box 26 _ _ rfl rfl rfl ?_; intro W0 b0 B0 l0 k0))
  have HC : Hid (∀ i (h : i < m.length) (h2 : i < d.length), W0.cell? ⟨b0, i, none⟩ = some (.int .i64 m[i]) ∧ W0.cell? ⟨b0, 4 + i, none⟩ = some (.int .i64 d[i])) := Lib.hid fun i h h2 => by
    have e1 := B0.cell i
    have e2 := B0.cell (4 + i)
    rw [iA_at _ _ (by simp; omega), List.getElem_append_left h] at e1
    rw [iA_at _ _ (by simp; omega), List.getElem_append_right (by omega)] at e2
    refine ⟨e1, e2.trans ?_⟩
    congr 3
    omega
  have HB := Lib.hid k0
  clear B0 k0 l0
  go_loop [3] (fun i => CxRel m d i) (fun i => 4 - (intOf i).toNat)
  case atStart => exact ⟨0, by omega, rfl, rfl⟩
  case round =>
    obtain ⟨k, hk, rfl, hx⟩ := hrel
    have HX := Lib.hid hx
    clear hx
    by_cases hlt : k < 4
    · have hm4 : k < m.length := by omega
      have hd4 : k < d.length := by omega
      obtain ⟨c1, c2⟩ := HC.out k hm4 hd4
      have HY := Lib.hid (all_zip (nr 512) (nr 255) m d k hm4 hd4 HX.out)
      have HM := Lib.hid (all_not (nr 512) m k hm4)
      have HD := Lib.hid (all_not (nr 255) d k hd4)
      generalize m[k] = x at *
      generalize d[k] = y at *
      obtain ⟨q, hq⟩ : ∃ q, nr 512 x = q := ⟨_, rfl⟩
      obtain ⟨p, hp⟩ : ∃ p, nr 255 y = p := ⟨_, rfl⟩
      have H1 := Lib.hid (fun w => in_is x 512 q hq (by omega) (by omega) w)
      have H2 := Lib.hid (fun w => in_is y 255 p hp (by omega) (by omega) w)
      cases q
      · have HF : Hid (cxOk m d = false) := Lib.hid (by unfold cxOk; rw [HM.out hq]; rfl)
        clear hq hp HX HY HM HD
        go_wp2_with (go_at_call 36; with_reducible refine (H1.out _).mono ?_; rintro e w2 ⟨rfl, rfl⟩)
        go_ret
        exact ⟨ret_bool HF.out.symm, HB.out⟩
      · cases p
        · have HF : Hid (cxOk m d = false) := Lib.hid (by unfold cxOk; rw [HD.out hp]; simp)
          clear hq hp HX HY HM HD
          go_wp2_with (first | (go_at_call 36; with_reducible refine (H1.out _).mono ?_; rintro e w2 ⟨rfl, rfl⟩) | (go_at_call 36; with_reducible refine (H2.out _).mono ?_; rintro e w3 ⟨rfl, rfl⟩))
          go_ret
          exact ⟨ret_bool HF.out.symm, HB.out⟩
        · have HF := Lib.hid (HY.out hq hp)
          clear hq hp HX HY HM HD
          go_wp2_with (first | (go_at_call 36; with_reducible refine (H1.out _).mono ?_; rintro e w2 ⟨rfl, rfl⟩) | (go_at_call 36; with_reducible refine (H2.out _).mono ?_; rintro e w3 ⟨rfl, rfl⟩))
          go_round
          case rel => exact ⟨k + 1, by omega, by go_num, HF.out⟩
          case measure => simp [intOf]; omega
    · obtain rfl : k = 4 := by omega
      have HL : Hid (cxOk m d = true) := Lib.hid (by
        have := HX.out
        rw [List.take_of_length_le (by omega), List.take_of_length_le (by omega)] at this
        exact this)
      clear HX
      go_wp2
      go_ret
      exact ⟨ret_bool HL.out.symm, HB.out⟩
def byI (v : Int) : Bool := decide (0 ≤ v) && decide (v ≤ 255)
def byAll (zs : List Int) : Bool := zs.all byI
def RgRel (zs : List Int) (i : Value) : Prop := ∃ k : Nat, k ≤ 4 ∧ i = .int .i64 k ∧ (zs.take k).all byI = true
theorem rgba_all (r g b a : Int) : rgbaOk r g b a = byAll [r, g, b, a] := by
  rw [Bool.eq_iff_iff]
  simp [rgbaOk, byAll, byI, nr]
  omega
set_option maxHeartbeats 1000000 in
theorem refrgba_any (r g b a : Int) (w : World) (hr : I64 r) (hg : I64 g) (hb : I64 b) (ha : I64 a) :
    Calls Try.prog 24 #[.agg #[.int .i64 r, .int .i64 g, .int .i64 b, .int .i64 a]] w fun e w' => e = .returned (.bool (rgbaOk r g b a)) ∧ Below w.heap.size w w' := by
  rw [rgba_all]
  have HI := Lib.hid (i64_4 hr hg hb ha)
  clear hr hg hb ha
  go_enter Try.func24, Try.ntmps24
  go_wp2_with (first
    | (refine wl_box 48 _ _ rfl rfl rfl ?_; intro W0 b0 B0 l0 k0; have c0 : W0.cell? ⟨b0, 0, none⟩ = some (.int .i64 r) := B0.cell 0; have c1 : W0.cell? ⟨b0, 1, none⟩ = some (.int .i64 g) := B0.cell 1; have c2 : W0.cell? ⟨b0, 2, none⟩ = some (.int .i64 b) := B0.cell 2; have c3 : W0.cell? ⟨b0, 3, none⟩ = some (.int .i64 a) := B0.cell 3)
    | (refine wlg_slice 63 3 4 _ _ (ints4_run r g b a) _ rfl rfl rfl ?_; intro W1 b1 B1 l1 k1))
  have hl : [r, g, b, a].length = 4 := rfl
  have HS := Lib.hid (B1.ints HI.out)
  have HB := Lib.hid (bq_trans k0 k1)
  clear B0 c0 c1 c2 c3 B1 k0 k1 l0 l1 HI
  generalize hzs : [r, g, b, a] = zs at hl HS
  have HZ := Lib.hid hzs
  clear hzs
  go_loop [15] (fun i => RgRel zs i) (fun i => 4 - (intOf i).toNat)
  case atStart => exact ⟨0, by omega, rfl, rfl⟩
  case round =>
    obtain ⟨k, hk, rfl, hx⟩ := hrel
    have HX := Lib.hid hx
    clear hx
    by_cases hlt : k < 4
    · have hlt2 : k < zs.length := by omega
      obtain ⟨_, z0, z1, hcell⟩ := HS.out.at (bq_refl _) k hlt2
      rw [Nat.zero_add] at hcell
      have HY := Lib.hid (all_take byI zs k hlt2 HX.out)
      have HN := Lib.hid (all_not byI zs k hlt2)
      generalize zs[k] = z at *
      by_cases c1 : z < 0
      · have HF : Hid (byAll zs = false) := Lib.hid (HN.out (by simp [byI]; omega))
        clear HX HY HN
        go_wp2
        go_ret
        exact ⟨ret_bool (by rw [HZ.out]; exact HF.out.symm), HB.out⟩
      · by_cases c2 : 255 < z
        · have HF : Hid (byAll zs = false) := Lib.hid (HN.out (by simp [byI]; omega))
          clear HX HY HN
          go_wp2
          go_ret
          exact ⟨ret_bool (by rw [HZ.out]; exact HF.out.symm), HB.out⟩
        · have HF : Hid ((zs.take (k + 1)).all byI = true) := Lib.hid (HY.out (by simp [byI]; omega))
          clear HX HY HN
          go_wp2
          go_round
          case rel => exact ⟨k + 1, by omega, by go_num, HF.out⟩
          case measure => simp [intOf]; omega
    · obtain rfl : k = 4 := by omega
      have HL : Hid (byAll zs = true) := Lib.hid (by have := HX.out; rw [List.take_of_length_le (by omega)] at this; exact this)
      go_wp2
      go_ret
      exact ⟨ret_bool (by rw [HZ.out]; exact HL.out.symm), HB.out⟩
end Go.Proofs.Ythcejmbjagpjcaa
