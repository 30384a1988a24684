import Derived.Test.YtoofjcpapidgdaaBi4
/- Layer 2: Align. -/
namespace Go.Proofs.Ytoofjcpapidgdaa
open Go.RowKit
set_option linter.unusedVariables false

def alA (m : Nat) (a : Int) : Int := if 0 ≤ a ∧ a ≤ 8 * m then (a + 7) / 8 * 8 else a
theorem align_post {Q : Ending → World → Prop} {a : Act} {W : World} {g : Nat} {x y : Value} (hbox : Box W g x y) (h : a.tmps[2]?.getD undef = .pointer (some ⟨g, 0, none⟩))
    (hd : a.defers = []) (hQ : Q (.returned (.agg #[x, y])) W) : bodyPost Try.prog Try.f15 Q Exit.ret a W :=
  bodyPost_ret (v := .agg #[x, y]) (by simp [results, Try.results15, go_sem, h, hbox.1, hbox.2.1]) hd hQ
theorem refalign_post {Q : Ending → World → Prop} {a : Act} {W : World} {g : Nat} {x y : Value} (hbox : Box W g x y) (h : a.tmps[2]?.getD undef = .pointer (some ⟨g, 0, none⟩))
    (hd : a.defers = []) (hQ : Q (.returned (.agg #[x, y])) W) : bodyPost Try.prog Try.f16 Q Exit.ret a W :=
  bodyPost_ret (v := .agg #[x, y]) (by simp [results, Try.results16, go_sem, h, hbox.1, hbox.2.1]) hd hQ
theorem align_yes (s : ByteArray) (a : Int) (w : World) (hs : s.size ≤ 1099511627776) (h0 : 0 ≤ a) (h1 : a ≤ 8 * s.size) :
    Calls Try.prog 15 #[.agg #[.string s, .int .i64 a]] w fun e w' => e = .returned (.agg #[.string s, .int .i64 ((a + 7) / 8 * 8)]) ∧ Below w.heap.size w w' := by
  go_enter Try.func15, Try.ntmps15
  go_wp2_with fail
  refine (isright_yes s a _ hs h0 h1).mono ?_
  rintro e w1 ⟨rfl, hb⟩
  obtain ⟨⟨c0, c1, f0, f1, _⟩, ⟨d0, d1, g0, g1, hz⟩, H⟩ := box2_kept hb
  have H1 := Lib.hid H
  clear hb H
  go_wp2
  exact align_post ((((Box.far ⟨d0, d1, g0, g1, hz⟩ (by simp) _).set0 _).set1 _)) rfl rfl ⟨rfl, bq_set (bq_set (bq_set H1.out _ (by simp) _) _ (by simp) _) _ (by simp) _⟩
theorem align_no (s : ByteArray) (a : Int) (w : World) (hs : s.size ≤ 1099511627776) (h : a < 0 ∨ 8 * s.size < a) :
    Calls Try.prog 15 #[.agg #[.string s, .int .i64 a]] w fun e w' => e = .returned (.agg #[.string s, .int .i64 a]) ∧ Below w.heap.size w w' := by
  have H := Lib.hid h
  clear h
  go_enter Try.func15, Try.ntmps15
  go_wp2_with fail
  refine (isright_no s a _ hs H.out).mono ?_
  rintro e w1 ⟨rfl, hb⟩
  obtain ⟨⟨c0, c1, f0, f1, _⟩, ⟨d0, d1, g0, g1, hz⟩, H⟩ := box2_kept hb
  have H1 := Lib.hid H
  clear hb H
  go_wp2
  exact align_post (((Box.set0 ⟨d0, d1, g0, g1, hz⟩ _).set1 _)) rfl rfl ⟨rfl, bq_set (bq_set H1.out _ (by simp) _) _ (by simp) _⟩
theorem align_any (s : ByteArray) (a : Int) (w : World) (hs : s.size ≤ 1099511627776) :
    Calls Try.prog 15 #[.agg #[.string s, .int .i64 a]] w fun e w' => e = .returned (.agg #[.string s, .int .i64 (alA s.size a)]) ∧ Below w.heap.size w w' := by
  unfold alA
  by_cases h : 0 ≤ a ∧ a ≤ 8 * s.size
  · rw [if_pos h]; exact align_yes s a w hs h.1 h.2
  · rw [if_neg h]; exact align_no s a w hs (by omega)

def cellInt (w : World) (g o : Nat) : Int := match w.cell? ⟨g, o, none⟩ with | some (.int _ n) => n | _ => 0
theorem cellInt_eq {w : World} {g o : Nat} {k : IntKind} {x : Int} (h : w.cell? ⟨g, o, none⟩ = some (.int k x)) : cellInt w g o = x := by unfold cellInt; rw [h]
def alM (w : World) (g : Nat) : Nat := ((8 - cellInt w g 1 % 8) % 8).toNat
def AlRel (s : ByteArray) (a : Int) (w wr : World) : Prop :=
  ∃ x : Int, Box wr w.heap.size (.string s) (.int .i64 x) ∧ Box wr (w.heap.size + 1) (.string ⟨#[]⟩) (.int .i64 0) ∧ Below w.heap.size w wr ∧ alA s.size x = alA s.size a
set_option maxHeartbeats 1000000 in
theorem refalign_any (s : ByteArray) (a : Int) (w : World) (hs : s.size ≤ 1099511627776) :
    Calls Try.prog 16 #[.agg #[.string s, .int .i64 a]] w fun e w' => e = .returned (.agg #[.string s, .int .i64 (alA s.size a)]) ∧ Below w.heap.size w w' := by
  go_enter Try.func16, Try.ntmps16
  go_wp2_with fail
  go_loopw [] (fun wr => AlRel s a w wr) (fun wr => alM wr w.heap.size)
  case atStart =>
    obtain ⟨h1, h2, h3⟩ := box2_kept (bq_refl ((w.alloc (.cells #[.string s, .int .i64 a] 28)).alloc (.cells #[.string ⟨#[]⟩, .int .i64 0] 28)))
    exact ⟨a, h1, h2, h3, rfl⟩
  case round =>
    obtain ⟨x, ⟨c0, c1, f0, f1, cz⟩, ⟨d0, d1, g0, g1, hz⟩, H, he⟩ := hrel
    have H1 := Lib.hid H
    have HE := Lib.hid he
    clear H he
    by_cases h : 0 ≤ x ∧ x ≤ 8 * s.size
    · obtain ⟨h0, h1⟩ := h
      by_cases hm : x % 8 = 0
      · have hbn : (x % 8 != 0) = false := by simp [hm]
        have HA : Hid (alA s.size a = x) := Lib.hid (by rw [← HE.out]; unfold alA; rw [if_pos ⟨h0, h1⟩]; omega)
        clear hm
        go_wp2_with fail
        refine (refright_yes s x _ hs h0 h1).mono ?_
        rintro e w1 ⟨rfl, hb⟩
        obtain ⟨c0', c1', f0', f1', cz'⟩ := Box.keep ⟨c0, c1, f0, f1, cz⟩ hb
        obtain ⟨d0', d1', g0', g1', hz'⟩ := Box.keep ⟨d0, d1, g0, g1, hz⟩ hb
        have H2 := Lib.hid (bq_trans H1.out hb)
        clear hb
        go_wp2_with fail
        exact refalign_post (((Box.set0 ⟨d0', d1', g0', g1', hz'⟩ _).set1 _)) rfl rfl ⟨by rw [HA.out], bq_set (bq_set H2.out _ (by simp) _) _ (by simp) _⟩
      · have hbn : (x % 8 != 0) = true := by rw [bne_iff_ne]; exact hm
        go_wp2_with fail
        refine (refright_yes s x _ hs h0 h1).mono ?_
        rintro e w1 ⟨rfl, hb⟩
        obtain ⟨c0', c1', f0', f1', cz'⟩ := Box.keep ⟨c0, c1, f0, f1, cz⟩ hb
        obtain ⟨d0', d1', g0', g1', hz'⟩ := Box.keep ⟨d0, d1, g0, g1, hz⟩ hb
        have H2 := Lib.hid (bq_trans H1.out hb)
        clear hb
        go_wp2_with fail
        have B1 : Box (w1.setCell ⟨w.heap.size, 1, none⟩ (.int .i64 (x + 1))) w.heap.size (.string s) (.int .i64 (x + 1)) := Box.set1 ⟨c0', c1', f0', f1', cz'⟩ _
        refine ⟨⟨x + 1, B1, Box.far ⟨d0', d1', g0', g1', hz'⟩ (by simp) _, bq_set H2.out _ (by simp) _, ?_⟩, ?_⟩
        · rw [← HE.out]; unfold alA; rw [if_pos (show 0 ≤ x + 1 ∧ x + 1 ≤ 8 * s.size by omega), if_pos ⟨h0, h1⟩]; omega
        · unfold alM
          rw [cellInt_eq B1.2.1, cellInt_eq c1]
          omega
    · have HA : Hid (alA s.size a = x) := Lib.hid (by rw [← HE.out]; unfold alA; rw [if_neg h])
      have HH : Hid (x < 0 ∨ 8 * s.size < x) := Lib.hid (by omega)
      clear h
      go_wp2_with fail
      refine (refright_no s x _ hs HH.out).mono ?_
      rintro e w1 ⟨rfl, hb⟩
      obtain ⟨c0', c1', f0', f1', cz'⟩ := Box.keep ⟨c0, c1, f0, f1, cz⟩ hb
      obtain ⟨d0', d1', g0', g1', hz'⟩ := Box.keep ⟨d0, d1, g0, g1, hz⟩ hb
      have H2 := Lib.hid (bq_trans H1.out hb)
      clear hb
      go_wp2_with fail
      exact refalign_post (((Box.set0 ⟨d0', d1', g0', g1', hz'⟩ _).set1 _)) rfl rfl ⟨by rw [HA.out], bq_set (bq_set H2.out _ (by simp) _) _ (by simp) _⟩
end Go.Proofs.Ytoofjcpapidgdaa
