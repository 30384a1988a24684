import Derived.Test.YtfaipbdkkkhacaaYC
/- Layer 7: whether rectangles, matrices, changes and colours are right; the document's. -/
namespace Go.Proofs.Ytfaipbdkkkhacaa
open Go.RowKit
set_option linter.unusedVariables false

theorem in_is (z m : Int) (q : Bool) (hq : nr m z = q) (m0 : 0 ≤ m) (m1 : m ≤ 1000000000) (w : World) :
    Calls Try.prog 42 #[.int .i64 z, .int .i64 m] w fun e w' => e = .returned (.bool q) ∧ w = w' := hq ▸ in_any z m w m0 m1
set_option maxHeartbeats 1000000 in
theorem refrect_any (l r t b : Int) (w : World) :
    Calls Try.prog 13 #[.agg #[.int .i64 l, .int .i64 r, .int .i64 t, .int .i64 b]] w fun e w' => e = .returned (.bool (rectOk l r t b)) ∧ Below w.heap.size w w' := by
  obtain ⟨q0, h0⟩ : ∃ q, nr 1048576 l = q := ⟨_, rfl⟩
  have H0 := Lib.hid (fun w => in_is l 1048576 q0 h0 (by omega) (by omega) w)
  obtain ⟨q1, h1⟩ : ∃ q, nr 1048576 r = q := ⟨_, rfl⟩
  have H1 := Lib.hid (fun w => in_is r 1048576 q1 h1 (by omega) (by omega) w)
  obtain ⟨q2, h2⟩ : ∃ q, nr 1048576 t = q := ⟨_, rfl⟩
  have H2 := Lib.hid (fun w => in_is t 1048576 q2 h2 (by omega) (by omega) w)
  obtain ⟨q3, h3⟩ : ∃ q, nr 1048576 b = q := ⟨_, rfl⟩
  have H3 := Lib.hid (fun w => in_is b 1048576 q3 h3 (by omega) (by omega) w)
  have HR : Hid (rectOk l r t b = (q0 && q1 && q2 && q3 && decide (l ≤ r) && decide (t ≤ b))) := Lib.hid (by unfold rectOk; simp only [List.all_cons, List.all_nil, h0, h1, h2, h3, Bool.and_true, Bool.and_assoc])
  rw [HR.out]
  clear HR h0 h1 h2 h3
  have hc : (q0 = false) ∨ (q0 = true ∧ q1 = false) ∨ (q0 = true ∧ q1 = true ∧ q2 = false) ∨ (q0 = true ∧ q1 = true ∧ q2 = true ∧ q3 = false) ∨ (q0 = true ∧ q1 = true ∧ q2 = true ∧ q3 = true) := by
    cases q0 <;> cases q1 <;> cases q2 <;> cases q3 <;> simp
  rcases hc with rfl | ⟨rfl, rfl⟩ | ⟨rfl, rfl, rfl⟩ | ⟨rfl, rfl, rfl, rfl⟩ | ⟨rfl, rfl, rfl, rfl⟩
  all_goals
    go_enter Try.func13, Try.ntmps13
    go_wp2_with (first
      | (refine wl_box 25 _ _ rfl rfl rfl ?_; intro W0 b0 B0 l0 k0; have c0 : W0.cell? ⟨b0, 0, none⟩ = some (.int .i64 l) := B0.cell 0; have c1 : W0.cell? ⟨b0, 1, none⟩ = some (.int .i64 r) := B0.cell 1; have c2 : W0.cell? ⟨b0, 2, none⟩ = some (.int .i64 t) := B0.cell 2; have c3 : W0.cell? ⟨b0, 3, none⟩ = some (.int .i64 b) := B0.cell 3)
      | (go_at_call 42; with_reducible refine (H0.out _).mono ?_; rintro e w2 ⟨rfl, rfl⟩) | (go_at_call 42; with_reducible refine (H1.out _).mono ?_; rintro e w3 ⟨rfl, rfl⟩) | (go_at_call 42; with_reducible refine (H2.out _).mono ?_; rintro e w4 ⟨rfl, rfl⟩) | (go_at_call 42; with_reducible refine (H3.out _).mono ?_; rintro e w5 ⟨rfl, rfl⟩))
    all_goals (go_ret; exact ⟨ret_bool (by rw [Bool.eq_iff_iff]; simp; try omega), k0⟩)
set_option maxHeartbeats 1000000 in
theorem refmatrix_any (a b c d x y : Int) (w : World) :
    Calls Try.prog 14 #[.agg #[.int .i64 a, .int .i64 b, .int .i64 c, .int .i64 d, .int .i64 x, .int .i64 y]] w fun e w' => e = .returned (.bool (matOk a b c d x y)) ∧ Below w.heap.size w w' := by
  obtain ⟨q0, h0⟩ : ∃ q, nr 4194304 a = q := ⟨_, rfl⟩
  have H0 := Lib.hid (fun w => in_is a 4194304 q0 h0 (by omega) (by omega) w)
  obtain ⟨q1, h1⟩ : ∃ q, nr 4194304 b = q := ⟨_, rfl⟩
  have H1 := Lib.hid (fun w => in_is b 4194304 q1 h1 (by omega) (by omega) w)
  obtain ⟨q2, h2⟩ : ∃ q, nr 4194304 c = q := ⟨_, rfl⟩
  have H2 := Lib.hid (fun w => in_is c 4194304 q2 h2 (by omega) (by omega) w)
  obtain ⟨q3, h3⟩ : ∃ q, nr 4194304 d = q := ⟨_, rfl⟩
  have H3 := Lib.hid (fun w => in_is d 4194304 q3 h3 (by omega) (by omega) w)
  obtain ⟨q4, h4⟩ : ∃ q, nr 1048576 x = q := ⟨_, rfl⟩
  have H4 := Lib.hid (fun w => in_is x 1048576 q4 h4 (by omega) (by omega) w)
  obtain ⟨q5, h5⟩ : ∃ q, nr 1048576 y = q := ⟨_, rfl⟩
  have H5 := Lib.hid (fun w => in_is y 1048576 q5 h5 (by omega) (by omega) w)
  have HR : Hid (matOk a b c d x y = (q0 && q1 && q2 && q3 && q4 && q5)) := Lib.hid (by unfold matOk; simp only [List.all_cons, List.all_nil, h0, h1, h2, h3, h4, h5, Bool.and_true, Bool.and_assoc])
  rw [HR.out]
  clear HR h0 h1 h2 h3 h4 h5
  have hc : (q0 = false) ∨ (q0 = true ∧ q1 = false) ∨ (q0 = true ∧ q1 = true ∧ q2 = false) ∨ (q0 = true ∧ q1 = true ∧ q2 = true ∧ q3 = false) ∨ (q0 = true ∧ q1 = true ∧ q2 = true ∧ q3 = true ∧ q4 = false) ∨ (q0 = true ∧ q1 = true ∧ q2 = true ∧ q3 = true ∧ q4 = true ∧ q5 = false) ∨ (q0 = true ∧ q1 = true ∧ q2 = true ∧ q3 = true ∧ q4 = true ∧ q5 = true) := by
    cases q0 <;> cases q1 <;> cases q2 <;> cases q3 <;> cases q4 <;> cases q5 <;> simp
  rcases hc with rfl | ⟨rfl, rfl⟩ | ⟨rfl, rfl, rfl⟩ | ⟨rfl, rfl, rfl, rfl⟩ | ⟨rfl, rfl, rfl, rfl, rfl⟩ | ⟨rfl, rfl, rfl, rfl, rfl, rfl⟩ | ⟨rfl, rfl, rfl, rfl, rfl, rfl⟩
  all_goals
    go_enter Try.func14, Try.ntmps14
    go_wp2_with (first
      | (refine wl_box 27 _ _ rfl rfl rfl ?_; intro W0 b0 B0 l0 k0; have c0 : W0.cell? ⟨b0, 0, none⟩ = some (.int .i64 a) := B0.cell 0; have c1 : W0.cell? ⟨b0, 1, none⟩ = some (.int .i64 b) := B0.cell 1; have c2 : W0.cell? ⟨b0, 2, none⟩ = some (.int .i64 c) := B0.cell 2; have c3 : W0.cell? ⟨b0, 3, none⟩ = some (.int .i64 d) := B0.cell 3; have c4 : W0.cell? ⟨b0, 4, none⟩ = some (.int .i64 x) := B0.cell 4; have c5 : W0.cell? ⟨b0, 5, none⟩ = some (.int .i64 y) := B0.cell 5)
      | (go_at_call 42; with_reducible refine (H0.out _).mono ?_; rintro e w2 ⟨rfl, rfl⟩) | (go_at_call 42; with_reducible refine (H1.out _).mono ?_; rintro e w3 ⟨rfl, rfl⟩) | (go_at_call 42; with_reducible refine (H2.out _).mono ?_; rintro e w4 ⟨rfl, rfl⟩) | (go_at_call 42; with_reducible refine (H3.out _).mono ?_; rintro e w5 ⟨rfl, rfl⟩) | (go_at_call 42; with_reducible refine (H4.out _).mono ?_; rintro e w6 ⟨rfl, rfl⟩) | (go_at_call 42; with_reducible refine (H5.out _).mono ?_; rintro e w7 ⟨rfl, rfl⟩))
    all_goals (go_ret; exact ⟨ret_bool (by rw [Bool.eq_iff_iff]; simp; try omega), k0⟩)

theorem all_zip (f g : Int → Bool) (a b : List Int) (k : Nat) (ha : k < a.length) (hb : k < b.length) (h1 : ((a.take k).all f && (b.take k).all g) = true) (h2 : f a[k] = true) (h3 : g b[k] = true) : ((a.take (k + 1)).all f && (b.take (k + 1)).all g) = true := by
  rw [Bool.and_eq_true] at *
  exact ⟨all_take f a k ha h1.1 h2, all_take g b k hb h1.2 h3⟩
def CxRel (m d : List Int) (i : Value) : Prop := ∃ k : Nat, k ≤ 4 ∧ i = .int .i64 k ∧ ((m.take k).all (nr 512) && (d.take k).all (nr 255)) = true
set_option maxHeartbeats 1000000 in
theorem refcx_any (m d : List Int) (w : World) (hm : m.length = 4) (hd : d.length = 4) :
    Calls Try.prog 15 #[.agg (iA (m ++ d))] w fun e w' => e = .returned (.bool (cxOk m d)) ∧ Below w.heap.size w w' := by
  go_enter Try.func15, Try.ntmps15
  go_wp2_with (first
    | (refine wl_box 30 _ _ rfl rfl rfl ?_; intro W0 b0 B0 l0 k0))
  have HC : Hid (∀ i (h : i < m.length) (h2 : i < d.length), W0.cell? ⟨b0, i, none⟩ = some (.int .i64 m[i]) ∧ W0.cell? ⟨b0, 4 + i, none⟩ = some (.int .i64 d[i])) := Lib.hid fun i h h2 => by
    have e1 := B0.cell i
    have e2 := B0.cell (4 + i)
    rw [iA_at _ _ (by simp; omega), List.getElem_append_left h] at e1
    rw [iA_at _ _ (by simp; omega), List.getElem_append_right (by omega)] at e2
    refine ⟨e1, e2.trans ?_⟩
    congr 3
    omega
  have HB := Lib.hid k0
  clear B0 k0 l0
  go_loop [3] (fun i => CxRel m d i) (fun i => 4 - (intOf i).toNat)
  case atStart => exact ⟨0, by omega, rfl, rfl⟩
  case round =>
    obtain ⟨k, hk, rfl, hx⟩ := hrel
    have HX := Lib.hid hx
    clear hx
    by_cases hlt : k < 4
    · have hm4 : k < m.length := by omega
      have hd4 : k < d.length := by omega
      obtain ⟨c1, c2⟩ := HC.out k hm4 hd4
      have HY := Lib.hid (all_zip (nr 512) (nr 255) m d k hm4 hd4 HX.out)
      have HM := Lib.hid (all_not (nr 512) m k hm4)
      have HD := Lib.hid (all_not (nr 255) d k hd4)
      generalize m[k] = x at *
      generalize d[k] = y at *
      obtain ⟨q, hq⟩ : ∃ q, nr 512 x = q := ⟨_, rfl⟩
      obtain ⟨p, hp⟩ : ∃ p, nr 255 y = p := ⟨_, rfl⟩
      have H1 := Lib.hid (fun w => in_is x 512 q hq (by omega) (by omega) w)
      have H2 := Lib.hid (fun w => in_is y 255 p hp (by omega) (by omega) w)
      cases q
      · have HF : Hid (cxOk m d = false) := Lib.hid (by unfold cxOk; rw [HM.out hq]; rfl)
        clear hq hp HX HY HM HD
        go_wp2_with (go_at_call 42; with_reducible refine (H1.out _).mono ?_; rintro e w2 ⟨rfl, rfl⟩)
        go_ret
        exact ⟨ret_bool HF.out.symm, HB.out⟩
      · cases p
        · have HF : Hid (cxOk m d = false) := Lib.hid (by unfold cxOk; rw [HD.out hp]; simp)
          clear hq hp HX HY HM HD
          go_wp2_with (first | (go_at_call 42; with_reducible refine (H1.out _).mono ?_; rintro e w2 ⟨rfl, rfl⟩) | (go_at_call 42; with_reducible refine (H2.out _).mono ?_; rintro e w3 ⟨rfl, rfl⟩))
          go_ret
          exact ⟨ret_bool HF.out.symm, HB.out⟩
        · have HF := Lib.hid (HY.out hq hp)
          clear hq hp HX HY HM HD
          go_wp2_with (first | (go_at_call 42; with_reducible refine (H1.out _).mono ?_; rintro e w2 ⟨rfl, rfl⟩) | (go_at_call 42; with_reducible refine (H2.out _).mono ?_; rintro e w3 ⟨rfl, rfl⟩))
          go_round
          case rel => exact ⟨k + 1, by omega, by go_num, HF.out⟩
          case measure => simp [intOf]; omega
    · obtain rfl : k = 4 := by omega
      have HL : Hid (cxOk m d = true) := Lib.hid (by
        have := HX.out
        rw [List.take_of_length_le (by omega), List.take_of_length_le (by omega)] at this
        exact this)
      clear HX
      go_wp2
      go_ret
      exact ⟨ret_bool HL.out.symm, HB.out⟩
def byI (v : Int) : Bool := decide (0 ≤ v) && decide (v ≤ 255)
def byAll (zs : List Int) : Bool := zs.all byI
def RgRel (zs : List Int) (i : Value) : Prop := ∃ k : Nat, k ≤ 4 ∧ i = .int .i64 k ∧ (zs.take k).all byI = true
theorem rgba_all (r g b a : Int) : rgbaOk r g b a = byAll [r, g, b, a] := by
  rw [Bool.eq_iff_iff]
  simp [rgbaOk, byAll, byI, nr]
  omega
set_option maxHeartbeats 1000000 in
theorem refrgba_any (r g b a : Int) (w : World) (hr : I64 r) (hg : I64 g) (hb : I64 b) (ha : I64 a) :
    Calls Try.prog 16 #[.agg #[.int .i64 r, .int .i64 g, .int .i64 b, .int .i64 a]] w fun e w' => e = .returned (.bool (rgbaOk r g b a)) ∧ Below w.heap.size w w' := by
  rw [rgba_all]
  have HI := Lib.hid (i64_4 hr hg hb ha)
  clear hr hg hb ha
  go_enter Try.func16, Try.ntmps16
  go_wp2_with (first
    | (refine wl_box 32 _ _ rfl rfl rfl ?_; intro W0 b0 B0 l0 k0; have c0 : W0.cell? ⟨b0, 0, none⟩ = some (.int .i64 r) := B0.cell 0; have c1 : W0.cell? ⟨b0, 1, none⟩ = some (.int .i64 g) := B0.cell 1; have c2 : W0.cell? ⟨b0, 2, none⟩ = some (.int .i64 b) := B0.cell 2; have c3 : W0.cell? ⟨b0, 3, none⟩ = some (.int .i64 a) := B0.cell 3)
    | (refine wlg_slice 82 3 4 _ _ (ints4_run r g b a) _ rfl rfl rfl ?_; intro W1 b1 B1 l1 k1))
  have hl : [r, g, b, a].length = 4 := rfl
  have HS := Lib.hid (B1.ints HI.out)
  have HB := Lib.hid (bq_trans k0 k1)
  clear B0 c0 c1 c2 c3 B1 k0 k1 l0 l1 HI
  generalize hzs : [r, g, b, a] = zs at hl HS
  have HZ := Lib.hid hzs
  clear hzs
  go_loop [15] (fun i => RgRel zs i) (fun i => 4 - (intOf i).toNat)
  case atStart => exact ⟨0, by omega, rfl, rfl⟩
  case round =>
    obtain ⟨k, hk, rfl, hx⟩ := hrel
    have HX := Lib.hid hx
    clear hx
    by_cases hlt : k < 4
    · have hlt2 : k < zs.length := by omega
      obtain ⟨_, z0, z1, hcell⟩ := HS.out.at (bq_refl _) k hlt2
      rw [Nat.zero_add] at hcell
      have HY := Lib.hid (all_take byI zs k hlt2 HX.out)
      have HN := Lib.hid (all_not byI zs k hlt2)
      generalize zs[k] = z at *
      by_cases c1 : z < 0
      · have HF : Hid (byAll zs = false) := Lib.hid (HN.out (by simp [byI]; omega))
        clear HX HY HN
        go_wp2
        go_ret
        exact ⟨ret_bool (by rw [HZ.out]; exact HF.out.symm), HB.out⟩
      · by_cases c2 : 255 < z
        · have HF : Hid (byAll zs = false) := Lib.hid (HN.out (by simp [byI]; omega))
          clear HX HY HN
          go_wp2
          go_ret
          exact ⟨ret_bool (by rw [HZ.out]; exact HF.out.symm), HB.out⟩
        · have HF : Hid ((zs.take (k + 1)).all byI = true) := Lib.hid (HY.out (by simp [byI]; omega))
          clear HX HY HN
          go_wp2
          go_round
          case rel => exact ⟨k + 1, by omega, by go_num, HF.out⟩
          case measure => simp [intOf]; omega
    · obtain rfl : k = 4 := by omega
      have HL : Hid (byAll zs = true) := Lib.hid (by have := HX.out; rw [List.take_of_length_le (by omega)] at this; exact this)
      go_wp2
      go_ret
      exact ⟨ret_bool (by rw [HZ.out]; exact HL.out.symm), HB.out⟩
end Go.Proofs.Ytfaipbdkkkhacaa
/- Layer 7: a colour behind a writer, both. -/
namespace Go.Proofs.Ytfaipbdkkkhacaa
open Go.RowKit
set_option linter.unusedVariables false
set_option maxRecDepth 100000

theorem size32 : (Try.prog.info? 32).map (·.size) = some 4 := by kernel_rfl
theorem bytes4_run (x y z u : Int) (w : World) : (Instr.buildSlice 84 4 [(0, .int .u8 x), (1, .int .u8 y), (2, .int .u8 z), (3, .int .u8 u)].toArray).run Try.prog w = .ok (.slice (some ⟨w.heap.size, 0, none⟩) 4 4) (w.alloc (.cells #[.int .u8 x, .int .u8 y, .int .u8 z, .int .u8 u] 5)) := by
  obtain ⟨ie, h1, h2⟩ := Option.map_eq_some_iff.1 byte_info
  have hz : ie.zero = some (.int .u8 0) := congrArg (·.1) h2
  have hs : ie.size = 1 := congrArg (·.2.1) h2
  refine run_buildSlice w 84 5 4 _ _ ie (.int .u8 0) Try.underlying84 h1 hz (by rw [hs]; decide) (by rw [hs]; decide) ?_
  rw [hs]; kernel_rfl
def by4 (r g b a : Int) : List UInt8 := [UInt8.ofNat r.toNat, UInt8.ofNat g.toNat, UInt8.ofNat b.toNat, UInt8.ofNat a.toNat]
theorem byte_int (x : Int) (h0 : 0 ≤ x) (h1 : x ≤ 255) : ((UInt8.ofNat x.toNat).toNat : Int) = x := by rw [B.ofNat_toNat _ (by omega)]; omega
theorem by4_str {r g b a : Int} (h : rgbaOk r g b a = true) {W : World} {q : Nat} (hB : Blk W q #[.int .u8 r, .int .u8 g, .int .u8 b, .int .u8 a] 5) : (convert 84 9 (.slice (some ⟨q, 0, none⟩) 4 4)).run Try.prog W = .ok (.string (bs (by4 r g b a))) W := by
  rw [rgba_all] at h
  simp only [byAll, List.all_cons, List.all_nil, Bool.and_true, Bool.and_eq_true, byI, decide_eq_true_eq] at h
  refine BRow.str (l := by4 r g b a) ⟨hB.lt, fun i hi => ?_⟩ 4
  have hi2 : i = 0 ∨ i = 1 ∨ i = 2 ∨ i = 3 := by simp [by4] at hi; omega
  rcases hi2 with rfl | rfl | rfl | rfl
  · exact ⟨by rw [hB.cell]; show some (Value.int .u8 r) = some (.int .u8 ((UInt8.ofNat r.toNat).toNat : Int)); rw [byte_int r (by omega) (by omega)], hB.frozen _⟩
  · exact ⟨by rw [hB.cell]; show some (Value.int .u8 g) = some (.int .u8 ((UInt8.ofNat g.toNat).toNat : Int)); rw [byte_int g (by omega) (by omega)], hB.frozen _⟩
  · exact ⟨by rw [hB.cell]; show some (Value.int .u8 b) = some (.int .u8 ((UInt8.ofNat b.toNat).toNat : Int)); rw [byte_int b (by omega) (by omega)], hB.frozen _⟩
  · exact ⟨by rw [hB.cell]; show some (Value.int .u8 a) = some (.int .u8 ((UInt8.ofNat a.toNat).toNat : Int)); rw [byte_int a (by omega) (by omega)], hB.frozen _⟩
theorem rgba_bd {r g b a : Int} (h : rgbaOk r g b a = true) : (0 ≤ r ∧ r ≤ 255) ∧ (0 ≤ g ∧ g ≤ 255) ∧ (0 ≤ b ∧ b ≤ 255) ∧ (0 ≤ a ∧ a ≤ 255) := by
  rw [rgba_all] at h
  simpa only [byAll, List.all_cons, List.all_nil, Bool.and_true, Bool.and_eq_true, byI, decide_eq_true_eq] using h
set_option maxHeartbeats 1000000 in
theorem putrgba_bad (s : ByteArray) (f r g b a : Int) (w : World) (hr : I64 r) (hg : I64 g) (hb : I64 b) (ha : I64 a) (h : rgbaOk r g b a = false) :
    Calls Try.prog 12 #[.agg #[.string s, .int .i64 f], .agg #[.int .i64 r, .int .i64 g, .int .i64 b, .int .i64 a]] w fun e w' => e = .returned errW ∧ Below w.heap.size w w' := by
  have HR := fun w => rightrgba_any r g b a w hr hg hb ha
  rw [h] at HR
  have HR2 := Lib.hid HR
  clear HR h hr hg hb ha
  go_enter Try.func12, Try.ntmps12
  go_wp2_with (first
    | (refine wl_box 23 _ _ rfl rfl (show _ = Value.agg #[.string s, .int .i64 f] from rfl) ?_; intro W1 bw Bw_1 l1 k1; have gw : w.heap.size ≤ bw := l1; have Hw1 := k1; clear l1 k1)
    | (refine wl_box 32 _ _ rfl rfl (show _ = Value.agg #[.int .i64 r, .int .i64 g, .int .i64 b, .int .i64 a] from rfl) ?_; intro W2 bm Bm_2 l2 k2; have gm : w.heap.size ≤ bm := Nat.le_trans Hw1.size l2; have nwm : bw ≠ bm := Nat.ne_of_lt (Nat.lt_of_lt_of_le Bw_1.lt l2); have Bw_2 := Bw_1.keep k2; have Hw2 := bq_trans Hw1 k2; clear l2 k2 Bw_1 Hw1)
    | (refine wl_alloc 23 _ zero23 rfl rfl ?_; intro W3 br Br_3 l3 k3; have gr : w.heap.size ≤ br := Nat.le_trans Hw2.size l3; have nwr : bw ≠ br := Nat.ne_of_lt (Nat.lt_of_lt_of_le Bw_2.lt l3); have nmr : bm ≠ br := Nat.ne_of_lt (Nat.lt_of_lt_of_le Bm_2.lt l3); have Bw_3 := Bw_2.keep k3; have Bm_3 := Bm_2.keep k3; have Hw3 := bq_trans Hw2 k3; clear l3 k3 Bw_2 Bm_2 Hw2)
    | (refine wl_load 32 4 _ Try.underlying32 rfl size32 _ rfl rfl _ rfl _ _ Bm_3 rfl ?_)
    | (go_at_call 20; (with_reducible refine (HR2.out _).mono ?_); rintro e W4 ⟨rfl, k4⟩; have Bw_4 := Bw_3.keep k4; have Bm_4 := Bm_3.keep k4; have Br_4 := Br_3.keep k4; have Hw4 := bq_trans Hw3 k4; clear k4 Bw_3 Bm_3 Br_3 Hw3)
    | (refine wl_store 23 2 size23 _ _ rfl rfl _ rfl #[.string ⟨#[]⟩, .int .i64 0] rfl _ _ Br_4 rfl rfl (by kernel_rfl) ?_; intro W5 Br_5 T5; have Bw_5 := T5.blk Bw_4 nwr; have Bm_5 := T5.blk Bm_4 nmr; have Hw5 := T5.below Hw4 gr; clear T5 Bw_4 Bm_4 Br_4 Hw4))
  exact post_cell_tmp (v := .int .i64 1) Try.underlying23 rfl size23 Try.results12 Br_5 rfl rfl rfl rfl ⟨rfl, Hw5⟩
set_option maxHeartbeats 1000000 in
theorem putrgba_ok (s : ByteArray) (f r g b a : Int) (w : World) (hs : s.size ≤ 1000000) (h : rgbaOk r g b a = true) :
    Calls Try.prog 12 #[.agg #[.string s, .int .i64 f], .agg #[.int .i64 r, .int .i64 g, .int .i64 b, .int .i64 a]] w fun e w' => e = .returned (.tuple #[.agg #[.string (s ++ bs (by4 r g b a)), .int .i64 0], .int .i64 0]) ∧ Below w.heap.size w w' := by
  obtain ⟨⟨r0, r1⟩, ⟨g0, g1⟩, ⟨b0, b1⟩, ⟨a0, a1⟩⟩ := rgba_bd h
  have HR := fun w => rightrgba_any r g b a w (by unfold I64; omega) (by unfold I64; omega) (by unfold I64; omega) (by unfold I64; omega)
  rw [h] at HR
  have HR2 := Lib.hid HR
  have HK := Lib.hid h
  have HP := Lib.hid (fun W => putbytes_any s (bs (by4 r g b a)) f W (by omega) (by show 4 ≤ 1099511627776; omega))
  clear HR h hs
  go_enter Try.func12, Try.ntmps12
  go_wp2_with (first
    | (refine wl_box 23 _ _ rfl rfl (show _ = Value.agg #[.string s, .int .i64 f] from rfl) ?_; intro W1 bw Bw_1 l1 k1; have gw : w.heap.size ≤ bw := l1; have Hw1 := k1; clear l1 k1)
    | (refine wl_box 32 _ _ rfl rfl (show _ = Value.agg #[.int .i64 r, .int .i64 g, .int .i64 b, .int .i64 a] from rfl) ?_; intro W2 bm Bm_2 l2 k2; have gm : w.heap.size ≤ bm := Nat.le_trans Hw1.size l2; have nwm : bw ≠ bm := Nat.ne_of_lt (Nat.lt_of_lt_of_le Bw_1.lt l2); have Bw_2 := Bw_1.keep k2; have Hw2 := bq_trans Hw1 k2; clear l2 k2 Bw_1 Hw1)
    | (refine wl_alloc 23 _ zero23 rfl rfl ?_; intro W3 br Br_3 l3 k3; have gr : w.heap.size ≤ br := Nat.le_trans Hw2.size l3; have nwr : bw ≠ br := Nat.ne_of_lt (Nat.lt_of_lt_of_le Bw_2.lt l3); have nmr : bm ≠ br := Nat.ne_of_lt (Nat.lt_of_lt_of_le Bm_2.lt l3); have Bw_3 := Bw_2.keep k3; have Bm_3 := Bm_2.keep k3; have Hw3 := bq_trans Hw2 k3; clear l3 k3 Bw_2 Bm_2 Hw2)
    | (refine wl_load 32 4 _ Try.underlying32 rfl size32 _ rfl rfl _ rfl _ _ Bm_3 rfl ?_)
    | (go_at_call 20; (with_reducible refine (HR2.out _).mono ?_); rintro e W4 ⟨rfl, k4⟩; have Bw_4 := Bw_3.keep k4; have Bm_4 := Bm_3.keep k4; have Br_4 := Br_3.keep k4; have Hw4 := bq_trans Hw3 k4; clear k4 Bw_3 Bm_3 Br_3 Hw3; have cm_0_4 : W4.cell? ⟨bm, 0, none⟩ = some (.int .i64 r) := Bm_4.cell 0; have cm_1_4 : W4.cell? ⟨bm, 1, none⟩ = some (.int .i64 g) := Bm_4.cell 1; have cm_2_4 : W4.cell? ⟨bm, 2, none⟩ = some (.int .i64 b) := Bm_4.cell 2; have cm_3_4 : W4.cell? ⟨bm, 3, none⟩ = some (.int .i64 a) := Bm_4.cell 3)
    | (refine wl_load 23 2 _ Try.underlying23 rfl size23 _ rfl rfl _ rfl _ _ Bw_4 rfl ?_)
    | (refine wlg_slice 84 5 4 _ _ (bytes4_run r g b a) _ rfl rfl rfl ?_; intro W5 bq Bq_5 l5 k5; have gq : w.heap.size ≤ bq := Nat.le_trans Hw4.size l5; have nwq : bw ≠ bq := Nat.ne_of_lt (Nat.lt_of_lt_of_le Bw_4.lt l5); have nmq : bm ≠ bq := Nat.ne_of_lt (Nat.lt_of_lt_of_le Bm_4.lt l5); have nrq : br ≠ bq := Nat.ne_of_lt (Nat.lt_of_lt_of_le Br_4.lt l5); have Bw_5 := Bw_4.keep k5; have Bm_5 := Bm_4.keep k5; have Br_5 := Br_4.keep k5; have Hw5 := bq_trans Hw4 k5; clear l5 k5 Bw_4 Bm_4 Br_4 cm_0_4 cm_1_4 cm_2_4 cm_3_4 Hw4; have hcv := by4_str HK.out Bq_5)
    | (go_at_call 41; (with_reducible refine (HP.out _).mono ?_); rintro e W6 ⟨rfl, k6⟩; have Bw_6 := Bw_5.keep k6; have Bm_6 := Bm_5.keep k6; have Br_6 := Br_5.keep k6; have Bq_6 := Bq_5.keep k6; have Hw6 := bq_trans Hw5 k6; clear k6 Bw_5 Bm_5 Br_5 Bq_5 Hw5)
    | (refine wl_store 23 2 size23 _ _ rfl rfl _ rfl _ rfl _ _ Br_6 rfl rfl (by kernel_rfl) ?_; intro W7 Br_7 T7; have Bw_7 := T7.blk Bw_6 nwr; have Bm_7 := T7.blk Bm_6 nmr; have Bq_7 := T7.blk Bq_6 (Ne.symm nrq); have Hw7 := T7.below Hw6 gr; clear T7 Bw_6 Bm_6 Bq_6 Br_6 Hw6))
  exact post_cell_tmp (v := .int .i64 0) Try.underlying23 rfl size23 Try.results12 Br_7 rfl rfl rfl rfl ⟨rfl, Hw7⟩
set_option maxHeartbeats 1000000 in
theorem refputrgba_ok (s : ByteArray) (r g b a : Int) (w : World) (hs : s.size ≤ 1000000) (h : rgbaOk r g b a = true) :
    Calls Try.prog 25 #[.string s, .agg #[.int .i64 r, .int .i64 g, .int .i64 b, .int .i64 a]] w fun e w' => e = .returned (.string (s ++ bs (by4 r g b a))) ∧ Below w.heap.size w w' := by
  obtain ⟨⟨r0, r1⟩, ⟨g0, g1⟩, ⟨b0, b1⟩, ⟨a0, a1⟩⟩ := rgba_bd h
  have HK := Lib.hid h
  have hu : (bs (by4 r g b a)).size ≤ 4 := by show 4 ≤ 4; omega
  clear h
  go_enter Try.func25, Try.ntmps25
  go_wp2_with (first
    | (refine wl_box 32 _ _ rfl rfl (show _ = Value.agg #[.int .i64 r, .int .i64 g, .int .i64 b, .int .i64 a] from rfl) ?_; intro W1 bm Bm_1 l1 k1; have gm : w.heap.size ≤ bm := l1; have Hw1 := k1; clear l1 k1; have cm_0_1 : W1.cell? ⟨bm, 0, none⟩ = some (.int .i64 r) := Bm_1.cell 0; have cm_1_1 : W1.cell? ⟨bm, 1, none⟩ = some (.int .i64 g) := Bm_1.cell 1; have cm_2_1 : W1.cell? ⟨bm, 2, none⟩ = some (.int .i64 b) := Bm_1.cell 2; have cm_3_1 : W1.cell? ⟨bm, 3, none⟩ = some (.int .i64 a) := Bm_1.cell 3)
    | (refine wlg_slice 84 5 4 _ _ (bytes4_run r g b a) _ rfl rfl rfl ?_; intro W2 bq Bq_2 l2 k2; have gq : w.heap.size ≤ bq := Nat.le_trans Hw1.size l2; have nmq : bm ≠ bq := Nat.ne_of_lt (Nat.lt_of_lt_of_le Bm_1.lt l2); have Bm_2 := Bm_1.keep k2; have Hw2 := bq_trans Hw1 k2; clear l2 k2 Bm_1 cm_0_1 cm_1_1 cm_2_1 cm_3_1 Hw1; have hcv := by4_str HK.out Bq_2))
  go_ret
  exact ⟨rfl, Hw2⟩
end Go.Proofs.Ytfaipbdkkkhacaa
