import Derived.Test.YthlnjipefeglpaaZU9
import Derived.BigRegion
namespace Go.Proofs.Ythlnjipefeglpaa
open Go.RowKit
set_option linter.unusedVariables false
theorem refput_post {Q : Ending → World → Prop} {a : Act} {W : World} {g : Nat} {x y : Value} (hbox : Box W g x y) (h : a.tmps[4]?.getD undef = .pointer (some ⟨g, 0, none⟩))
    (hd : a.defers = []) (hQ : Q (.returned (.agg #[x, y])) W) : bodyPost Try.prog Try.f87 Q Exit.ret a W :=
  bodyPost_ret (v := .agg #[x, y]) (by simp [results, Try.results87, go_sem, h, hbox.1, hbox.2.1]) hd hQ
theorem str_one (g : Nat) (x : Nat) (hx : x < 256) (W : World) (h : W.cell? ⟨g, 0, none⟩ = some (.int .u8 (x : Int))) : (convert 96 9 (.slice (some ⟨g, 0, none⟩) 1 1)).run Try.prog W = .ok (.string (bs [UInt8.ofNat x])) W := by
  have hl : ([UInt8.ofNat x] : List UInt8).length = 1 := rfl
  have := run_convert_bytes_back (P := Try.prog) W 96 9 5 ⟨g, 0, none⟩ 1 [UInt8.ofNat x] Try.underlying96 Try.underlying5 Try.underlying9 (fun j hj => by
    rw [hl] at hj
    obtain rfl : j = 0 := by omega
    have e : ([UInt8.ofNat x] : List UInt8)[0].toNat = x := B.ofNat_toNat x hx
    rw [e, ← h]; rfl)
  exact this
set_option maxHeartbeats 400000 in
theorem refput_zero (s : ByteArray) (b : Nat) (w : World) (hs : s.size ≤ 1099511627776) (hb : b < 2) :
    Calls Try.prog 87 #[.agg #[.string s, .int .i64 0], .int .i64 b] w fun e w' => e = .returned (.agg #[.string (bs (B.putL s.data.toList 0 b 1)), .int .i64 (B.putF s.size 0 1 : Int)]) ∧ Below w.heap.size w w' := by
  obtain ⟨e1, e2⟩ := B.putL_bit0 s.data.toList b hb
  rw [bytes_length] at e2
  rw [e1, e2, ← bs_append, bs_of]
  clear e1 e2
  obtain ⟨C, D, H⟩ := box2_now w (.string s) (.int .i64 0) (.string ⟨#[]⟩) (.int .i64 0) 97 97
  have hsz : (bs [UInt8.ofNat (128 * b)]).size ≤ 1 := by rw [bs_size]; simp
  go_enter Try.func87, Try.ntmps87
  go_upto_region 2 with (fail)
  generalize (w.alloc (.cells #[.string s, .int .i64 0] 97)).alloc (.cells #[.string ⟨#[]⟩, .int .i64 0] 97) = w1 at C D H ⊢
  have hconv := str_one w1.heap.size (128 * b) (by omega) (w1.alloc (.cells #[.int .u8 ((128 * b : Nat) : Int)] 5)) (by rw [World.cell?_alloc_new]; rfl)
  rw [show ((128 * b : Nat) : Int) = 128 * (b : Int) by omega] at hconv
  have H1 := Lib.hid (bq_alloc H (.cells #[.int .u8 (128 * (b : Int))] 5))
  have D1 := D.alloc (.cells #[.int .u8 (128 * (b : Int))] 5)
  generalize hW : w1.alloc (.cells #[.int .u8 (128 * (b : Int))] 5) = W at *
  have hal : (w1.alloc (.cells #[.int .u8 (128 * (b : Int))] 5)) = W := hW
  obtain ⟨c0, c1, f0, f1, cz⟩ := C
  obtain ⟨d0, d1, g0, g1, hz⟩ := D1
  clear H D hW
  generalize htl : bs [UInt8.ofNat (128 * b)] = tl at hconv hsz
  have HTL := Lib.hid htl
  clear htl
  go_wp2_with fail
  exact refput_post ((Box.set0 ⟨d0, d1, g0, g1, hz⟩ _).set1 _) rfl rfl ⟨by rw [HTL.out]; rfl, bq_set (bq_set H1.out _ (by simp) _) _ (by simp) _⟩
attribute [local go_sem ↓] Go.wp_at_zero Go.wp_at_succ
set_option maxHeartbeats 1000000 in
theorem refput_part (s : ByteArray) (b f m : Nat) (w : World) (hs : s.size ≤ 1099511627776) (hb : b < 2) (hf0 : 1 ≤ f) (hf : f ≤ 7) (hm : m < s.size) (hm2 : s.size ≤ m + 1) (hz0 : s[m].toNat % B.P2 f = 0) :
    Calls Try.prog 87 #[.agg #[.string s, .int .i64 f], .int .i64 b] w fun e w' => e = .returned (.agg #[.string (bs (B.putL s.data.toList f b 1)), .int .i64 (B.putF s.size f 1 : Int)]) ∧ Below w.heap.size w w' := by
  obtain ⟨e1, e2, e3⟩ := B.putL_bitf (s.data.toList.take m) s[m] f b hb hf0 hf hz0
  have hl : (s.data.toList.take m).length = m := by rw [List.length_take, bytes_length]; omega
  rw [hl, show m + 1 = s.size by omega] at e2
  rw [← split_last s m hm hm2] at e1
  rw [e1, e2, ← bs_append, ← bs_extract s m (by omega), show ((f - 1 : Nat) : Int) = (f : Int) - 1 by omega]
  clear e1 e2 hl
  have hff : ((f : Int) == 0) = false := by rw [beq_eq_false_iff_ne]; omega
  obtain ⟨y, hy⟩ : ∃ y, y = B.P2 (f - 1) := ⟨_, rfl⟩
  have hyb : y ≤ 64 := by rw [hy]; exact B.P2_le (b := 6) (by omega)
  have HP := fun w => power_any (f - 1) w (by omega)
  rw [show ((f - 1 : Nat) : Int) = (f : Int) - 1 by omega, ← hy] at HP
  rw [← hy] at e3 ⊢
  have HPW := Lib.hid HP
  clear HP hy hz0
  have hcb := s[m].toNat_lt
  obtain ⟨X, hX⟩ : ∃ X, X = s[m].toNat + b * y := ⟨_, rfl⟩
  have hXe : wrap64 (wrap64 (s[m].toNat : Int) + wrap64 ((b : Int) * (y : Int))) = (X : Int) := by
    have hby : b * y ≤ 64 := by
      rcases (show b = 0 ∨ b = 1 by omega) with rfl | rfl <;> omega
    rw [i64_id (s[m].toNat : Int) (by omega) (by omega), show (b : Int) * (y : Int) = ((b * y : Nat) : Int) by push_cast; rfl, i64_id ((b * y : Nat) : Int) (by omega) (by omega), i64_id _ (by omega) (by omega), hX]
    omega
  rw [← hX] at e3 ⊢
  have HXE := Lib.hid hXe
  clear hX hXe hcb
  have hsz : (bs [UInt8.ofNat X]).size ≤ 1 := by rw [bs_size]; simp
  have hsz2 : (s.extract 0 m).size ≤ 1099511627776 := by rw [ByteArray.size_extract]; omega
  have wr1 : IntKind.i64.wrap ((s.size : Int) - 1) = (m : Int) := by rw [i64_wrap _ (by omega) (by omega)]; omega
  have wr2 := i64_wrap ((f : Int) - 1) (by omega) (by omega)
  have b2 : (m : Int) < (s.size : Int) := by omega
  obtain ⟨C, D, H⟩ := box2_now w (.string s) (.int .i64 f) (.string ⟨#[]⟩) (.int .i64 0) 97 97
  go_enter Try.func87, Try.ntmps87
  go_upto_region 3 with (fail)
  generalize (w.alloc (.cells #[.string s, .int .i64 f] 97)).alloc (.cells #[.string ⟨#[]⟩, .int .i64 0] 97) = w1 at C D H ⊢
  obtain ⟨c0, c1, f0, f1, cz⟩ := C
  have HD := Lib.hid D
  have H1 := Lib.hid H
  clear D H
  go_quiet ((go_at_call 82; exact quiet_same (HPW.out _)))
  go_upto_region 4 with (fail)
  rw [HXE.out]
  have c0' : (w1.drewN nq).cell? ⟨w.heap.size, 0, none⟩ = some (.string s) := c0
  have c1' : (w1.drewN nq).cell? ⟨w.heap.size, 1, none⟩ = some (.int .i64 f) := c1
  have D1 := Box.drewN HD.out nq
  have H2 := Lib.hid (bq_drewN H1.out nq)
  clear c0 c1 f0 f1 cz HD H1
  generalize w1.drewN nq = w2 at c0' c1' D1 H2 ⊢
  obtain ⟨d0, d1, g0, g1, hz⟩ := D1
  have hconv := str_one w2.heap.size X e3
  have hX8 : IntKind.u8.wrap (X : Int) = (X : Int) := by rw [IntKind.wrap_u8]; omega
  have ne1 : ¬ w.heap.size + 1 = w2.heap.size := by omega
  have ne2 : ¬ w2.heap.size = w.heap.size + 1 := by omega
  have ne3 : ¬ w.heap.size = w2.heap.size := by omega
  have b3 : (m : Int) ≤ (s.size : Int) := by omega
  have b4 : m ≤ s.size := by omega
  generalize htl : bs [UInt8.ofNat X] = tl at hconv hsz
  have HTL := Lib.hid htl
  clear htl
  have lt1 : w.heap.size < w2.heap.size := by omega
  have hnl : ¬ 9223372036854775807 < m + tl.size := by omega
  go_region
  go_wp2
  exact refput_post ((((Box.set0 ⟨d0, d1, g0, g1, hz⟩ _).set1 _).alloc _).drew) rfl rfl ⟨by rw [HTL.out], bq_drew (bq_alloc (bq_set (bq_set H2.out _ (by simp) _) _ (by simp) _) _)⟩
theorem refput_any (s : ByteArray) (f b : Nat) (w : World) (hs : s.size ≤ 1099511627776) (hb : b < 2) (h : B.Snd s.data.toList f) :
    Calls Try.prog 87 #[.agg #[.string s, .int .i64 f], .int .i64 b] w fun e w' => e = .returned (.agg #[.string (bs (B.putL s.data.toList f b 1)), .int .i64 (B.putF s.size f 1 : Int)]) ∧ Below w.heap.size w w' := by
  by_cases h0 : f = 0
  · subst h0
    exact refput_zero s b w hs hb
  · obtain ⟨h1, h2, h3⟩ := h
    rw [bytes_length] at h2
    obtain ⟨m, hm⟩ : ∃ m, m + 1 = s.size := ⟨s.size - 1, by omega⟩
    have e := last_mod_bs s m (by omega) (by omega) f (by omega)
    exact refput_part s b f m w hs hb (by omega) (by omega) (by omega) (by omega) (by rw [← e]; exact h3)
end Go.Proofs.Ythlnjipefeglpaa
