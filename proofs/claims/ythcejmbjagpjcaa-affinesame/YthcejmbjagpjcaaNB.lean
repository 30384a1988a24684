import Derived.Test.YthcejmbjagpjcaaNA0
import Derived.Test.YthcejmbjagpjcaaNA1
import Derived.Test.YthcejmbjagpjcaaNA2
import Derived.Test.YthcejmbjagpjcaaNA3
/- Layer 14: AffineSame, put together. -/
namespace Go.Proofs.Ythcejmbjagpjcaa
open Go.RowKit
set_option linter.unusedVariables false
set_option linter.unusedSimpArgs false
set_option maxRecDepth 100000

theorem dt_r1 (p q : Int) : dt p q 65536 0 = p := by unfold dt; omega
theorem dt_r2 (p q : Int) : dt p q 0 65536 = q := by unfold dt; omega
theorem dt_r0 (p q : Int) : dt p q 0 0 = 0 := by unfold dt; omega
theorem dt_l1 (x y : Int) : dt 65536 0 x y = x := by unfold dt; omega
theorem dt_l2 (x y : Int) : dt 0 65536 x y = y := by unfold dt; omega
theorem ok_same : matOk 65536 0 0 65536 0 0 = true := by decide
theorem cmp_same_r {A B C D X Y : Int} (h : matOk A B C D X Y = true) : cmpV A B C D X Y 65536 0 0 65536 0 0 = .tuple #[.agg #[.int .i64 A, .int .i64 B, .int .i64 C, .int .i64 D, .int .i64 X, .int .i64 Y], .int .i64 0] := by
  have e : matOk (dt A C 65536 0) (dt B D 65536 0) (dt A C 0 65536) (dt B D 0 65536) (dt A C 0 0 + X) (dt B D 0 0 + Y) = true := by rw [dt_r1, dt_r1, dt_r2, dt_r2, dt_r0, dt_r0, Int.zero_add, Int.zero_add]; exact h
  rw [cmpV_yes h ok_same e, dt_r1, dt_r1, dt_r2, dt_r2, dt_r0, dt_r0, Int.zero_add, Int.zero_add]
theorem cmp_same_l {A B C D X Y : Int} (h : matOk A B C D X Y = true) : cmpV 65536 0 0 65536 0 0 A B C D X Y = .tuple #[.agg #[.int .i64 A, .int .i64 B, .int .i64 C, .int .i64 D, .int .i64 X, .int .i64 Y], .int .i64 0] := by
  have e : matOk (dt 65536 0 A B) (dt 0 65536 A B) (dt 65536 0 C D) (dt 0 65536 C D) (dt 65536 0 X Y + 0) (dt 0 65536 X Y + 0) = true := by rw [dt_l1, dt_l1, dt_l1, dt_l2, dt_l2, dt_l2, Int.add_zero, Int.add_zero]; exact h
  rw [cmpV_yes ok_same h e, dt_l1, dt_l1, dt_l1, dt_l2, dt_l2, dt_l2, Int.add_zero, Int.add_zero]
theorem cx_ok_plain : cxOk8 256 256 256 256 0 0 0 0 = true := by decide
theorem mulF_l (m : Int) : mulF 256 m = m := by unfold mulF; omega
theorem mulF_r (m : Int) : mulF m 256 = m := by unfold mulF; omega
theorem mulF_0 (m : Int) : mulF 0 m = 0 := by unfold mulF; omega
theorem ccx_plain_r {m0 m1 m2 m3 d0 d1 d2 d3 : Int} (h : cxOk8 m0 m1 m2 m3 d0 d1 d2 d3 = true) : ccxV m0 m1 m2 m3 d0 d1 d2 d3 256 256 256 256 0 0 0 0 = .agg #[.int .i64 m0, .int .i64 m1, .int .i64 m2, .int .i64 m3, .int .i64 d0, .int .i64 d1, .int .i64 d2, .int .i64 d3] := by
  rw [ccxV_yes h cx_ok_plain]
  obtain ⟨a0, a1, a2, a3, b0, b1, b2, b3⟩ := cxOk_bd h
  unfold cxM cxA
  simp only [mulF_l, mulF_0, Int.zero_add]
  rw [clp_in _ _ _ a0.1 a0.2, clp_in _ _ _ a1.1 a1.2, clp_in _ _ _ a2.1 a2.2, clp_in _ _ _ a3.1 a3.2, clp_in _ _ _ b0.1 b0.2, clp_in _ _ _ b1.1 b1.2, clp_in _ _ _ b2.1 b2.2, clp_in _ _ _ b3.1 b3.2]
theorem ccx_plain_l {m0 m1 m2 m3 d0 d1 d2 d3 : Int} (h : cxOk8 m0 m1 m2 m3 d0 d1 d2 d3 = true) : ccxV 256 256 256 256 0 0 0 0 m0 m1 m2 m3 d0 d1 d2 d3 = .agg #[.int .i64 m0, .int .i64 m1, .int .i64 m2, .int .i64 m3, .int .i64 d0, .int .i64 d1, .int .i64 d2, .int .i64 d3] := by
  rw [ccxV_yes cx_ok_plain h]
  obtain ⟨a0, a1, a2, a3, b0, b1, b2, b3⟩ := cxOk_bd h
  unfold cxM cxA
  simp only [mulF_r, Int.add_zero]
  rw [clp_in _ _ _ a0.1 a0.2, clp_in _ _ _ a1.1 a1.2, clp_in _ _ _ a2.1 a2.2, clp_in _ _ _ a3.1 a3.2, clp_in _ _ _ b0.1 b0.2, clp_in _ _ _ b1.1 b1.2, clp_in _ _ _ b2.1 b2.2, clp_in _ _ _ b3.1 b3.2]
theorem col_plain {kr kg kb ka : Int} (h : rgbaOk kr kg kb ka = true) : colV 256 256 256 256 0 0 0 0 kr kg kb ka = .agg #[.int .i64 kr, .int .i64 kg, .int .i64 kb, .int .i64 ka] := by
  rw [colV_yes cx_ok_plain h]
  obtain ⟨a0, a1, a2, a3⟩ := rgbaOk_bd h
  unfold colP
  simp only [mulF_r, Int.add_zero]
  rw [clp_in _ _ _ a0.1 a0.2, clp_in _ _ _ a1.1 a1.2, clp_in _ _ _ a2.1 a2.2, clp_in _ _ _ a3.1 a3.2]
theorem grd_even (A B C D X Y x y : Int) : (∃ r s : Int, grdV A B C D X Y x y = .tuple #[.agg #[.int .i64 (2 * r), .int .i64 (2 * s)], .int .i64 0]) ∨ (∃ ev : Int, (ev != 0) = true ∧ grdV A B C D X Y x y = .tuple #[.agg #[.int .i64 0, .int .i64 0], .int .i64 ev]) := by
  unfold grdV
  split
  · split
    · exact Or.inl ⟨_, _, rfl⟩
    · exact Or.inr ⟨8, by decide, rfl⟩
  · exact Or.inr ⟨1, by decide, rfl⟩
theorem even_tmod (r s : Int) : Hid ((2 * r).tmod 2 = 0 ∧ (2 * s).tmod 2 = 0) := Lib.hid ⟨Int.mul_tmod_right _ _, Int.mul_tmod_right _ _⟩
theorem I64C_plain : I64C 256 256 256 256 0 0 0 0 := ⟨⟨by decide, by decide⟩, ⟨by decide, by decide⟩, ⟨by decide, by decide⟩, ⟨by decide, by decide⟩, ⟨by decide, by decide⟩, ⟨by decide, by decide⟩, ⟨by decide, by decide⟩, ⟨by decide, by decide⟩⟩
theorem affineSame_walk (A B C D X Y m0 m1 m2 m3 d0 d1 d2 d3 kr kg kb ka x y : Int) (w : World) (hm : I64M A B C D X Y) (hc : I64C m0 m1 m2 m3 d0 d1 d2 d3) (h0 : I64 kr) (h1 : I64 kg) (h2 : I64 kb) (h3 : I64 ka) : Calls Try.prog 7 #[.agg #[.int .i64 A, .int .i64 B, .int .i64 C, .int .i64 D, .int .i64 X, .int .i64 Y], .agg #[.int .i64 m0, .int .i64 m1, .int .i64 m2, .int .i64 m3, .int .i64 d0, .int .i64 d1, .int .i64 d2, .int .i64 d3], .agg #[.int .i64 kr, .int .i64 kg, .int .i64 kb, .int .i64 ka], .agg #[.int .i64 x, .int .i64 y]] w fun e w' => e = .returned (.bool true) ∧ Below w.heap.size w w' := by
  have HA := Lib.hid awake14_any
  have HS := Lib.hid same14_any
  have H1 := Lib.hid fun W => comp14_any A B C D X Y 65536 0 0 65536 0 0 W hm I64M_same
  have H2 := Lib.hid fun W => comp14_any 65536 0 0 65536 0 0 A B C D X Y W I64M_same hm
  have H3 := Lib.hid fun W => refmatrix_any A B C D X Y W
  have H4 := Lib.hid fun W => (show Calls Try.prog 12 #[.agg #[.int .i64 m0, .int .i64 m1, .int .i64 m2, .int .i64 m3, .int .i64 d0, .int .i64 d1, .int .i64 d2, .int .i64 d3]] W fun e w' => e = .returned (.bool (cxOk8 m0 m1 m2 m3 d0 d1 d2 d3)) ∧ Below W.heap.size W w' from rrightc m0 m1 m2 m3 d0 d1 d2 d3 W)
  have H7 := Lib.hid fun W => refrgba_any kr kg kb ka W h0 h1 h2 h3
  have H9 := Lib.hid fun W => grid14_any A B C D X Y x y W hm
  have H5 := Lib.hid fun W => compcx14_any m0 m1 m2 m3 d0 d1 d2 d3 256 256 256 256 0 0 0 0 W hc I64C_plain
  have H6 := Lib.hid fun W => compcx14_any 256 256 256 256 0 0 0 0 m0 m1 m2 m3 d0 d1 d2 d3 W I64C_plain hc
  have H8 := Lib.hid fun W => color14_any 256 256 256 256 0 0 0 0 kr kg kb ka W I64C_plain h0 h1 h2 h3
  cases q1 : matOk A B C D X Y with
  | false =>
    rw [cmpV_no (by rw [q1]; rfl)] at H1
    rw [cmpV_no (by rw [q1, Bool.and_false])] at H2
    rw [q1] at H3
    cases q2 : cxOk8 m0 m1 m2 m3 d0 d1 d2 d3 with
    | false =>
      rw [q2] at H4
      cases q3 : rgbaOk kr kg kb ka with
      | false =>
        rw [q3] at H7
        rcases grd_even A B C D X Y x y with ⟨r, s, e⟩ | ⟨ev, hev, e⟩
        · rw [e] at H9
          exact same14_0001 A B C D X Y m0 m1 m2 m3 d0 d1 d2 d3 kr kg kb ka x y r s 1 w (by decide) (even_tmod r s) HA HS H1 H2 H3 H4 H7 H9
        · rw [e] at H9
          exact same14_0000 A B C D X Y m0 m1 m2 m3 d0 d1 d2 d3 kr kg kb ka x y 0 0 ev w hev (even_tmod 0 0) HA HS H1 H2 H3 H4 H7 H9
      | true =>
        rw [q3] at H7
        rw [col_plain q3] at H8
        rcases grd_even A B C D X Y x y with ⟨r, s, e⟩ | ⟨ev, hev, e⟩
        · rw [e] at H9
          exact same14_0011 A B C D X Y m0 m1 m2 m3 d0 d1 d2 d3 kr kg kb ka x y r s 1 w (by decide) (even_tmod r s) HA HS H1 H2 H3 H4 H7 H8 H9
        · rw [e] at H9
          exact same14_0010 A B C D X Y m0 m1 m2 m3 d0 d1 d2 d3 kr kg kb ka x y 0 0 ev w hev (even_tmod 0 0) HA HS H1 H2 H3 H4 H7 H8 H9
    | true =>
      rw [q2] at H4
      rw [ccx_plain_r q2] at H5
      rw [ccx_plain_l q2] at H6
      cases q3 : rgbaOk kr kg kb ka with
      | false =>
        rw [q3] at H7
        rcases grd_even A B C D X Y x y with ⟨r, s, e⟩ | ⟨ev, hev, e⟩
        · rw [e] at H9
          exact same14_0101 A B C D X Y m0 m1 m2 m3 d0 d1 d2 d3 kr kg kb ka x y r s 1 w (by decide) (even_tmod r s) HA HS H1 H2 H3 H4 H5 H6 H7 H9
        · rw [e] at H9
          exact same14_0100 A B C D X Y m0 m1 m2 m3 d0 d1 d2 d3 kr kg kb ka x y 0 0 ev w hev (even_tmod 0 0) HA HS H1 H2 H3 H4 H5 H6 H7 H9
      | true =>
        rw [q3] at H7
        rw [col_plain q3] at H8
        rcases grd_even A B C D X Y x y with ⟨r, s, e⟩ | ⟨ev, hev, e⟩
        · rw [e] at H9
          exact same14_0111 A B C D X Y m0 m1 m2 m3 d0 d1 d2 d3 kr kg kb ka x y r s 1 w (by decide) (even_tmod r s) HA HS H1 H2 H3 H4 H5 H6 H7 H8 H9
        · rw [e] at H9
          exact same14_0110 A B C D X Y m0 m1 m2 m3 d0 d1 d2 d3 kr kg kb ka x y 0 0 ev w hev (even_tmod 0 0) HA HS H1 H2 H3 H4 H5 H6 H7 H8 H9
  | true =>
    rw [cmp_same_r q1] at H1
    rw [cmp_same_l q1] at H2
    rw [q1] at H3
    cases q2 : cxOk8 m0 m1 m2 m3 d0 d1 d2 d3 with
    | false =>
      rw [q2] at H4
      cases q3 : rgbaOk kr kg kb ka with
      | false =>
        rw [q3] at H7
        rcases grd_even A B C D X Y x y with ⟨r, s, e⟩ | ⟨ev, hev, e⟩
        · rw [e] at H9
          exact same14_1001 A B C D X Y m0 m1 m2 m3 d0 d1 d2 d3 kr kg kb ka x y r s 1 w (by decide) (even_tmod r s) HA HS H1 H2 H3 H4 H7 H9
        · rw [e] at H9
          exact same14_1000 A B C D X Y m0 m1 m2 m3 d0 d1 d2 d3 kr kg kb ka x y 0 0 ev w hev (even_tmod 0 0) HA HS H1 H2 H3 H4 H7 H9
      | true =>
        rw [q3] at H7
        rw [col_plain q3] at H8
        rcases grd_even A B C D X Y x y with ⟨r, s, e⟩ | ⟨ev, hev, e⟩
        · rw [e] at H9
          exact same14_1011 A B C D X Y m0 m1 m2 m3 d0 d1 d2 d3 kr kg kb ka x y r s 1 w (by decide) (even_tmod r s) HA HS H1 H2 H3 H4 H7 H8 H9
        · rw [e] at H9
          exact same14_1010 A B C D X Y m0 m1 m2 m3 d0 d1 d2 d3 kr kg kb ka x y 0 0 ev w hev (even_tmod 0 0) HA HS H1 H2 H3 H4 H7 H8 H9
    | true =>
      rw [q2] at H4
      rw [ccx_plain_r q2] at H5
      rw [ccx_plain_l q2] at H6
      cases q3 : rgbaOk kr kg kb ka with
      | false =>
        rw [q3] at H7
        rcases grd_even A B C D X Y x y with ⟨r, s, e⟩ | ⟨ev, hev, e⟩
        · rw [e] at H9
          exact same14_1101 A B C D X Y m0 m1 m2 m3 d0 d1 d2 d3 kr kg kb ka x y r s 1 w (by decide) (even_tmod r s) HA HS H1 H2 H3 H4 H5 H6 H7 H9
        · rw [e] at H9
          exact same14_1100 A B C D X Y m0 m1 m2 m3 d0 d1 d2 d3 kr kg kb ka x y 0 0 ev w hev (even_tmod 0 0) HA HS H1 H2 H3 H4 H5 H6 H7 H9
      | true =>
        rw [q3] at H7
        rw [col_plain q3] at H8
        rcases grd_even A B C D X Y x y with ⟨r, s, e⟩ | ⟨ev, hev, e⟩
        · rw [e] at H9
          exact same14_1111 A B C D X Y m0 m1 m2 m3 d0 d1 d2 d3 kr kg kb ka x y r s 1 w (by decide) (even_tmod r s) HA HS H1 H2 H3 H4 H5 H6 H7 H8 H9
        · rw [e] at H9
          exact same14_1110 A B C D X Y m0 m1 m2 m3 d0 d1 d2 d3 kr kg kb ka x y 0 0 ev w hev (even_tmod 0 0) HA HS H1 H2 H3 H4 H5 H6 H7 H8 H9
end Go.Proofs.Ythcejmbjagpjcaa
