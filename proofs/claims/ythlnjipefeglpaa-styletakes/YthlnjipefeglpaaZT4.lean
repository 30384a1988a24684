import Derived.Test.YthlnjipefeglpaaZT3
namespace Go.Proofs.Ythlnjipefeglpaa
open Go.RowKit
set_option linter.unusedVariables false
def sgV (s : ByteArray) (a n : Int) : Int := if 0 < n ∧ B.P2 n.toNat ≤ 2 * (plV s a n).toNat then plV s a n - B.P2 n.toNat else plV s a n
def sgR (s : ByteArray) (a n : Int) : Value := .tuple #[.int .i64 (sgV s a n), .agg #[.string (plS s a n), .int .i64 (plA s a n)], .int .i64 (plE s.size a n)]
theorem signed_post {Q : Ending → World → Prop} {a : Act} {W : World} {g : Nat} {x y u v : Value} (hbox : Box W g x y) (h4 : a.tmps[4]?.getD undef = u) (h5 : a.tmps[5]?.getD undef = .pointer (some ⟨g, 0, none⟩)) (h6 : a.tmps[6]?.getD undef = v)
    (hd : a.defers = []) (hQ : Q (.returned (.tuple #[u, .agg #[x, y], v])) W) : bodyPost Try.prog Try.f104 Q Exit.ret a W :=
  bodyPost_ret (v := .tuple #[u, .agg #[x, y], v]) (by simp [results, Try.results104, go_sem, h4, h5, h6, hbox.1, hbox.2.1]) hd hQ
theorem refsigned_post {Q : Ending → World → Prop} {a : Act} {W : World} {g : Nat} {x y u v : Value} (hbox : Box W g x y) (h4 : a.tmps[4]?.getD undef = u) (h5 : a.tmps[5]?.getD undef = .pointer (some ⟨g, 0, none⟩)) (h6 : a.tmps[6]?.getD undef = v)
    (hd : a.defers = []) (hQ : Q (.returned (.tuple #[u, .agg #[x, y], v])) W) : bodyPost Try.prog Try.f111 Q Exit.ret a W :=
  bodyPost_ret (v := .tuple #[u, .agg #[x, y], v]) (by simp [results, Try.results111, go_sem, h4, h5, h6, hbox.1, hbox.2.1]) hd hQ
theorem signed_err (s t : ByteArray) (a n A E : Int) (w : World) (hE : (E == 0) = false)
    (HP : Hid (∀ w, Calls Try.prog 103 #[.agg #[.string s, .int .i64 a], .int .i64 n] w fun e w' => e = .returned (.tuple #[.int .i64 0, .agg #[.string t, .int .i64 A], .int .i64 E]) ∧ Below w.heap.size w w')) :
    Calls Try.prog 104 #[.agg #[.string s, .int .i64 a], .int .i64 n] w fun e w' => e = .returned (.tuple #[.int .i64 0, .agg #[.string t, .int .i64 A], .int .i64 E]) ∧ Below w.heap.size w w' := by
  go_enter Try.func104, Try.ntmps104
  go_wp2_with fail
  refine (HP.out _).mono ?_
  rintro e w1 ⟨rfl, hb⟩
  obtain ⟨⟨c0, c1, _, _, _⟩, ⟨d0, d1, g0, g1, hz⟩, H⟩ := box2_kept hb
  have H1 := Lib.hid H
  clear hb H
  go_wp2_with fail
  have BN := box_new w1 (.string t) (.int .i64 A) 46
  have BR := Box.alloc ⟨d0, d1, g0, g1, hz⟩ (.cells #[.string t, .int .i64 A] 46)
  have HB := Lib.hid (bq_alloc H1.out (.cells #[.string t, .int .i64 A] 46))
  generalize w1.alloc (.cells #[.string t, .int .i64 A] 46) = W at BN BR HB ⊢
  have ne1 : ¬ w.heap.size + 1 = w1.heap.size := by omega
  have ne2 : ¬ w1.heap.size = w.heap.size + 1 := by omega
  obtain ⟨p0, p1, _, _, _⟩ := BN
  obtain ⟨q0, q1, k0, k1, kz⟩ := BR
  clear c0 c1 d0 d1 g0 g1 H1
  go_region_held3 (fun w' => w'.cell? ⟨w1.heap.size, 0, none⟩ = some (.string t) ∧ w'.cell? ⟨w1.heap.size, 1, none⟩ = some (.int .i64 A)) (go_keep) (fail)
  go_wp2
  exact signed_post (((Box.drewN ⟨q0, q1, k0, k1, kz⟩ _).set0 _).set1 _) rfl rfl rfl rfl ⟨rfl, bq_set (bq_set (bq_drewN HB.out _) _ (by simp) _) _ (by simp) _⟩
theorem refsigned_err (s t : ByteArray) (a n A E : Int) (w : World) (hE : (E == 0) = false)
    (HP : Hid (∀ w, Calls Try.prog 105 #[.agg #[.string s, .int .i64 a], .int .i64 n] w fun e w' => e = .returned (.tuple #[.int .i64 0, .agg #[.string t, .int .i64 A], .int .i64 E]) ∧ Below w.heap.size w w')) :
    Calls Try.prog 111 #[.agg #[.string s, .int .i64 a], .int .i64 n] w fun e w' => e = .returned (.tuple #[.int .i64 0, .agg #[.string t, .int .i64 A], .int .i64 E]) ∧ Below w.heap.size w w' := by
  go_enter Try.func111, Try.ntmps111
  go_wp2_with fail
  refine (HP.out _).mono ?_
  rintro e w1 ⟨rfl, hb⟩
  obtain ⟨⟨c0, c1, _, _, _⟩, ⟨d0, d1, g0, g1, hz⟩, H⟩ := box2_kept hb
  have H1 := Lib.hid H
  clear hb H
  go_wp2_with fail
  have BN := box_new w1 (.string t) (.int .i64 A) 51
  have BR := Box.alloc ⟨d0, d1, g0, g1, hz⟩ (.cells #[.string t, .int .i64 A] 51)
  have HB := Lib.hid (bq_alloc H1.out (.cells #[.string t, .int .i64 A] 51))
  generalize w1.alloc (.cells #[.string t, .int .i64 A] 51) = W at BN BR HB ⊢
  have ne1 : ¬ w.heap.size + 1 = w1.heap.size := by omega
  have ne2 : ¬ w1.heap.size = w.heap.size + 1 := by omega
  obtain ⟨p0, p1, _, _, _⟩ := BN
  obtain ⟨q0, q1, k0, k1, kz⟩ := BR
  clear c0 c1 d0 d1 g0 g1 H1
  go_region_held3 (fun w' => w'.cell? ⟨w1.heap.size, 0, none⟩ = some (.string t) ∧ w'.cell? ⟨w1.heap.size, 1, none⟩ = some (.int .i64 A)) (go_keep) (fail)
  go_wp2
  exact refsigned_post (((Box.drewN ⟨q0, q1, k0, k1, kz⟩ _).set0 _).set1 _) rfl rfl rfl rfl ⟨rfl, bq_set (bq_set (bq_drewN HB.out _) _ (by simp) _) _ (by simp) _⟩
theorem signed_num (s t : ByteArray) (a A : Int) (n x : Nat) (w : World) (z : Int) (hn : n ≤ 31) (hx : x ≤ 2147483648)
    (HZ : Hid (x < B.P2 n ∧ (0 < n ∧ B.P2 n ≤ 2 * x ∧ z = (x : Int) - B.P2 n ∨ (n = 0 ∨ 2 * x < B.P2 n) ∧ z = x)))
    (HP : Hid (∀ w, Calls Try.prog 103 #[.agg #[.string s, .int .i64 a], .int .i64 n] w fun e w' => e = .returned (.tuple #[.int .i64 x, .agg #[.string t, .int .i64 A], .int .i64 0]) ∧ Below w.heap.size w w')) :
    Calls Try.prog 104 #[.agg #[.string s, .int .i64 a], .int .i64 n] w fun e w' => e = .returned (.tuple #[.int .i64 z, .agg #[.string t, .int .i64 A], .int .i64 0]) ∧ Below w.heap.size w w' := by
  by_cases hn0 : n = 0
  · have hz0 : z = x := by rcases HZ.out.2 with h | h <;> omega
    subst hn0
    subst hz0
    clear HZ
    go_enter Try.func104, Try.ntmps104
    go_wp2_with fail
    refine (HP.out _).mono ?_
    rintro e w1 ⟨rfl, hb⟩
    obtain ⟨⟨c0, c1, _, _, _⟩, ⟨d0, d1, g0, g1, hz⟩, H⟩ := box2_kept hb
    have H1 := Lib.hid H
    clear hb H
    go_wp2_with fail
    have BN := box_new w1 (.string t) (.int .i64 A) 46
    have BR := Box.alloc ⟨d0, d1, g0, g1, hz⟩ (.cells #[.string t, .int .i64 A] 46)
    have HB := Lib.hid (bq_alloc H1.out (.cells #[.string t, .int .i64 A] 46))
    generalize w1.alloc (.cells #[.string t, .int .i64 A] 46) = W at BN BR HB ⊢
    have ne1 : ¬ w.heap.size + 1 = w1.heap.size := by omega
    have ne2 : ¬ w1.heap.size = w.heap.size + 1 := by omega
    obtain ⟨p0, p1, _, _, _⟩ := BN
    obtain ⟨q0, q1, k0, k1, kz⟩ := BR
    clear c0 c1 d0 d1 g0 g1 H1
    go_region_held3 (fun w' => w'.cell? ⟨w1.heap.size, 0, none⟩ = some (.string t) ∧ w'.cell? ⟨w1.heap.size, 1, none⟩ = some (.int .i64 A)) (go_keep) (fail)
    go_wp2
    exact signed_post (((Box.drewN ⟨q0, q1, k0, k1, kz⟩ _).set0 _).set1 _) rfl rfl rfl rfl ⟨rfl, bq_set (bq_set (bq_drewN HB.out _) _ (by simp) _) _ (by simp) _⟩
  · have hn1 : 1 ≤ n := by omega
    have hp := B.P2_succ (n - 1)
    rw [show n - 1 + 1 = n by omega] at hp
    have hpb : B.P2 n ≤ 2147483648 := B.P2_le (b := 31) hn
    have hp0 := B.P2_pos (n - 1)
    obtain ⟨hxp, hzz⟩ := HZ.out
    clear hn0 HZ
    by_cases ht : B.P2 n ≤ 2 * x
    · have hb1 : ((x : Int) / 2 ^ (n - 1) == 1) = true := by
        rw [div_pow, beq_iff_eq, show x / B.P2 (n - 1) = 1 from (Nat.div_eq_iff hp0).2 (by omega)]
        rfl
      have HE : Hid (wrap64 ((x : Int) - wrap64 (2 ^ n)) = z) := Lib.hid (by rw [P2_cast, i64_id (B.P2 n : Int) (by omega) (by omega), i64_id _ (by omega) (by omega)]; omega)
      clear hp hpb hp0 hxp hzz ht
      go_enter Try.func104, Try.ntmps104
      go_wp2_with fail
      refine (HP.out _).mono ?_
      rintro e w1 ⟨rfl, hb⟩
      obtain ⟨⟨c0, c1, _, _, _⟩, ⟨d0, d1, g0, g1, hz⟩, H⟩ := box2_kept hb
      have H1 := Lib.hid H
      clear hb H
      go_wp2_with fail
      have BN := box_new w1 (.string t) (.int .i64 A) 46
      have BR := Box.alloc ⟨d0, d1, g0, g1, hz⟩ (.cells #[.string t, .int .i64 A] 46)
      have HB := Lib.hid (bq_alloc H1.out (.cells #[.string t, .int .i64 A] 46))
      generalize w1.alloc (.cells #[.string t, .int .i64 A] 46) = W at BN BR HB ⊢
      have ne1 : ¬ w.heap.size + 1 = w1.heap.size := by omega
      have ne2 : ¬ w1.heap.size = w.heap.size + 1 := by omega
      obtain ⟨p0, p1, _, _, _⟩ := BN
      obtain ⟨q0, q1, k0, k1, kz⟩ := BR
      clear c0 c1 d0 d1 g0 g1 H1
      go_region_held3 (fun w' => w'.cell? ⟨w1.heap.size, 0, none⟩ = some (.string t) ∧ w'.cell? ⟨w1.heap.size, 1, none⟩ = some (.int .i64 A)) (go_keep) (fail)
      go_wp2
      exact signed_post (((Box.drewN ⟨q0, q1, k0, k1, kz⟩ _).set0 _).set1 _) rfl rfl rfl rfl ⟨by rw [← HE.out]; rfl, bq_set (bq_set (bq_drewN HB.out _) _ (by simp) _) _ (by simp) _⟩
    · have hb1 : ((x : Int) / 2 ^ (n - 1) == 1) = false := by
        rw [div_pow, beq_eq_false_iff_ne, Nat.div_eq_of_lt (by omega)]
        decide
      obtain rfl : z = x := by omega
      clear hp hpb hp0 hxp hzz ht
      go_enter Try.func104, Try.ntmps104
      go_wp2_with fail
      refine (HP.out _).mono ?_
      rintro e w1 ⟨rfl, hb⟩
      obtain ⟨⟨c0, c1, _, _, _⟩, ⟨d0, d1, g0, g1, hz⟩, H⟩ := box2_kept hb
      have H1 := Lib.hid H
      clear hb H
      go_wp2_with fail
      have BN := box_new w1 (.string t) (.int .i64 A) 46
      have BR := Box.alloc ⟨d0, d1, g0, g1, hz⟩ (.cells #[.string t, .int .i64 A] 46)
      have HB := Lib.hid (bq_alloc H1.out (.cells #[.string t, .int .i64 A] 46))
      generalize w1.alloc (.cells #[.string t, .int .i64 A] 46) = W at BN BR HB ⊢
      have ne1 : ¬ w.heap.size + 1 = w1.heap.size := by omega
      have ne2 : ¬ w1.heap.size = w.heap.size + 1 := by omega
      obtain ⟨p0, p1, _, _, _⟩ := BN
      obtain ⟨q0, q1, k0, k1, kz⟩ := BR
      clear c0 c1 d0 d1 g0 g1 H1
      go_region_held3 (fun w' => w'.cell? ⟨w1.heap.size, 0, none⟩ = some (.string t) ∧ w'.cell? ⟨w1.heap.size, 1, none⟩ = some (.int .i64 A)) (go_keep) (fail)
      go_wp2
      exact signed_post (((Box.drewN ⟨q0, q1, k0, k1, kz⟩ _).set0 _).set1 _) rfl rfl rfl rfl ⟨rfl, bq_set (bq_set (bq_drewN HB.out _) _ (by simp) _) _ (by simp) _⟩
theorem refsigned_num (s t : ByteArray) (a A : Int) (n x : Nat) (w : World) (z : Int) (hn : n ≤ 31) (hx : x ≤ 2147483648)
    (HZ : Hid (x < B.P2 n ∧ (0 < n ∧ B.P2 n ≤ 2 * x ∧ z = (x : Int) - B.P2 n ∨ (n = 0 ∨ 2 * x < B.P2 n) ∧ z = x)))
    (HP : Hid (∀ w, Calls Try.prog 105 #[.agg #[.string s, .int .i64 a], .int .i64 n] w fun e w' => e = .returned (.tuple #[.int .i64 x, .agg #[.string t, .int .i64 A], .int .i64 0]) ∧ Below w.heap.size w w')) :
    Calls Try.prog 111 #[.agg #[.string s, .int .i64 a], .int .i64 n] w fun e w' => e = .returned (.tuple #[.int .i64 z, .agg #[.string t, .int .i64 A], .int .i64 0]) ∧ Below w.heap.size w w' := by
  by_cases hn0 : n = 0
  · have hz0 : z = x := by rcases HZ.out.2 with h | h <;> omega
    subst hn0
    subst hz0
    clear HZ
    go_enter Try.func111, Try.ntmps111
    go_wp2_with fail
    refine (HP.out _).mono ?_
    rintro e w1 ⟨rfl, hb⟩
    obtain ⟨⟨c0, c1, _, _, _⟩, ⟨d0, d1, g0, g1, hz⟩, H⟩ := box2_kept hb
    have H1 := Lib.hid H
    clear hb H
    go_wp2_with fail
    have BN := box_new w1 (.string t) (.int .i64 A) 51
    have BR := Box.alloc ⟨d0, d1, g0, g1, hz⟩ (.cells #[.string t, .int .i64 A] 51)
    have HB := Lib.hid (bq_alloc H1.out (.cells #[.string t, .int .i64 A] 51))
    generalize w1.alloc (.cells #[.string t, .int .i64 A] 51) = W at BN BR HB ⊢
    have ne1 : ¬ w.heap.size + 1 = w1.heap.size := by omega
    have ne2 : ¬ w1.heap.size = w.heap.size + 1 := by omega
    obtain ⟨p0, p1, _, _, _⟩ := BN
    obtain ⟨q0, q1, k0, k1, kz⟩ := BR
    clear c0 c1 d0 d1 g0 g1 H1
    go_region_held3 (fun w' => w'.cell? ⟨w1.heap.size, 0, none⟩ = some (.string t) ∧ w'.cell? ⟨w1.heap.size, 1, none⟩ = some (.int .i64 A)) (go_keep) (fail)
    go_wp2
    exact refsigned_post (((Box.drewN ⟨q0, q1, k0, k1, kz⟩ _).set0 _).set1 _) rfl rfl rfl rfl ⟨rfl, bq_set (bq_set (bq_drewN HB.out _) _ (by simp) _) _ (by simp) _⟩
  · have hn1 : 1 ≤ n := by omega
    have hpb : B.P2 n ≤ 2147483648 := B.P2_le (b := 31) hn
    obtain ⟨hxp, hzz⟩ := HZ.out
    clear hn0 HZ
    by_cases ht : B.P2 n ≤ 2 * x
    · have HE : Hid (z = (x : Int) - (B.P2 n : Int)) := Lib.hid (by omega)
      clear hzz
      go_enter Try.func111, Try.ntmps111
      go_wp2_with fail
      refine (HP.out _).mono ?_
      rintro e w1 ⟨rfl, hb⟩
      obtain ⟨⟨c0, c1, _, _, _⟩, ⟨d0, d1, g0, g1, hz⟩, H⟩ := box2_kept hb
      have H1 := Lib.hid H
      clear hb H
      go_wp2_with (go_at_call 82; refine (power_any n _ (by omega)).mono ?_; rintro e w' ⟨rfl, rfl⟩)
      have BN := box_new w1 (.string t) (.int .i64 A) 51
      have BR := Box.alloc ⟨d0, d1, g0, g1, hz⟩ (.cells #[.string t, .int .i64 A] 51)
      have HB := Lib.hid (bq_alloc H1.out (.cells #[.string t, .int .i64 A] 51))
      generalize w1.alloc (.cells #[.string t, .int .i64 A] 51) = W at BN BR HB ⊢
      have ne1 : ¬ w.heap.size + 1 = w1.heap.size := by omega
      have ne2 : ¬ w1.heap.size = w.heap.size + 1 := by omega
      obtain ⟨p0, p1, _, _, _⟩ := BN
      obtain ⟨q0, q1, k0, k1, kz⟩ := BR
      clear c0 c1 d0 d1 g0 g1 H1
      go_region_held3 (fun w' => w'.cell? ⟨w1.heap.size, 0, none⟩ = some (.string t) ∧ w'.cell? ⟨w1.heap.size, 1, none⟩ = some (.int .i64 A)) (go_keep) (fail)
      go_wp2
      exact refsigned_post (((Box.drewN ⟨q0, q1, k0, k1, kz⟩ _).set0 _).set1 _) rfl rfl rfl rfl ⟨by rw [HE.out]; rfl, bq_set (bq_set (bq_drewN HB.out _) _ (by simp) _) _ (by simp) _⟩
    · obtain rfl : z = x := by omega
      clear hzz
      go_enter Try.func111, Try.ntmps111
      go_wp2_with fail
      refine (HP.out _).mono ?_
      rintro e w1 ⟨rfl, hb⟩
      obtain ⟨⟨c0, c1, _, _, _⟩, ⟨d0, d1, g0, g1, hz⟩, H⟩ := box2_kept hb
      have H1 := Lib.hid H
      clear hb H
      go_wp2_with (go_at_call 82; refine (power_any n _ (by omega)).mono ?_; rintro e w' ⟨rfl, rfl⟩)
      have BN := box_new w1 (.string t) (.int .i64 A) 51
      have BR := Box.alloc ⟨d0, d1, g0, g1, hz⟩ (.cells #[.string t, .int .i64 A] 51)
      have HB := Lib.hid (bq_alloc H1.out (.cells #[.string t, .int .i64 A] 51))
      generalize w1.alloc (.cells #[.string t, .int .i64 A] 51) = W at BN BR HB ⊢
      have ne1 : ¬ w.heap.size + 1 = w1.heap.size := by omega
      have ne2 : ¬ w1.heap.size = w.heap.size + 1 := by omega
      obtain ⟨p0, p1, _, _, _⟩ := BN
      obtain ⟨q0, q1, k0, k1, kz⟩ := BR
      clear c0 c1 d0 d1 g0 g1 H1
      go_region_held3 (fun w' => w'.cell? ⟨w1.heap.size, 0, none⟩ = some (.string t) ∧ w'.cell? ⟨w1.heap.size, 1, none⟩ = some (.int .i64 A)) (go_keep) (fail)
      go_wp2
      exact refsigned_post (((Box.drewN ⟨q0, q1, k0, k1, kz⟩ _).set0 _).set1 _) rfl rfl rfl rfl ⟨rfl, bq_set (bq_set (bq_drewN HB.out _) _ (by simp) _) _ (by simp) _⟩
theorem sg_cases (s : ByteArray) (a n : Int) : (∃ E A t, plR s a n = .tuple #[.int .i64 0, .agg #[.string t, .int .i64 A], .int .i64 E] ∧ (E == 0) = false ∧ sgR s a n = plR s a n) ∨
    (∃ N x : Nat, ∃ A z t, n = N ∧ N ≤ 31 ∧ x ≤ 2147483648 ∧ plR s a n = .tuple #[.int .i64 x, .agg #[.string t, .int .i64 A], .int .i64 0] ∧ sgR s a n = .tuple #[.int .i64 z, .agg #[.string t, .int .i64 A], .int .i64 0] ∧
      (x < B.P2 N ∧ (0 < N ∧ B.P2 N ≤ 2 * x ∧ z = (x : Int) - B.P2 N ∨ (N = 0 ∨ 2 * x < B.P2 N) ∧ z = x))) := by
  by_cases h : plE s.size a n = 0
  · right
    have hn : 0 ≤ n ∧ n ≤ 31 := by
      unfold plE at h
      split at h
      · omega
      · cases h
    obtain ⟨N, rfl⟩ := Int.eq_ofNat_of_zero_le hn.1
    obtain ⟨x, hx⟩ : ∃ x : Nat, x = B.fld s.data.toList a.toNat N := ⟨_, rfl⟩
    have hv : plV s a N = x := by unfold plV; rw [if_pos h, hx]; rfl
    have hlt : x < B.P2 N := by rw [hx]; exact B.fld_lt _ _ _
    have hP : B.P2 N ≤ B.P2 31 := B.P2_le (by omega)
    have hP2 : B.P2 31 = 2147483648 := rfl
    refine ⟨N, x, plA s a N, sgV s a N, plS s a N, rfl, by omega, by omega, by rw [plR, hv, h], by rw [sgR, h], hlt, ?_⟩
    unfold sgV
    rw [hv, Int.toNat_natCast, Int.toNat_natCast]
    by_cases c : 0 < (N : Int) ∧ B.P2 N ≤ 2 * x
    · left; rw [if_pos c]; exact ⟨by omega, c.2, rfl⟩
    · right; rw [if_neg c]; exact ⟨by omega, rfl⟩
  · left
    have hv : plV s a n = 0 := if_neg h
    refine ⟨plE s.size a n, plA s a n, plS s a n, by rw [plR, hv], by rw [beq_eq_false_iff_ne]; exact h, ?_⟩
    have hs : sgV s a n = 0 := by
      unfold sgV
      rw [hv, if_neg]
      have := B.P2_pos n.toNat
      simp
      omega
    rw [sgR, hs, plR, hv]
theorem signed_any (s : ByteArray) (a n : Int) (w : World) (hs : s.size ≤ 1099511627776) :
    Calls Try.prog 104 #[.agg #[.string s, .int .i64 a], .int .i64 n] w fun e w' => e = .returned (sgR s a n) ∧ Below w.heap.size w w' := by
  have HP := fun w => plain_any s a n w hs
  rcases sg_cases s a n with ⟨E, A, t, h1, h2, h3⟩ | ⟨N, x, A, z, t, rfl, h1, h2, h3, h4, h5⟩
  · rw [h3, h1]; rw [h1] at HP; exact signed_err s t a n A E w h2 (Lib.hid HP)
  · rw [h4]; rw [h3] at HP; exact signed_num s t a A N x w z h1 h2 (Lib.hid h5) (Lib.hid HP)
theorem refsigned_any (s : ByteArray) (a n : Int) (w : World) (hs : s.size ≤ 1099511627776) :
    Calls Try.prog 111 #[.agg #[.string s, .int .i64 a], .int .i64 n] w fun e w' => e = .returned (sgR s a n) ∧ Below w.heap.size w w' := by
  have HP := fun w => refplain_any s a n w hs
  rcases sg_cases s a n with ⟨E, A, t, h1, h2, h3⟩ | ⟨N, x, A, z, t, rfl, h1, h2, h3, h4, h5⟩
  · rw [h3, h1]; rw [h1] at HP; exact refsigned_err s t a n A E w h2 (Lib.hid HP)
  · rw [h4]; rw [h3] at HP; exact refsigned_num s t a A N x w z h1 h2 (Lib.hid h5) (Lib.hid HP)
end Go.Proofs.Ythlnjipefeglpaa
namespace Go.Proofs.Ythlnjipefeglpaa
open Go.RowKit
set_option linter.unusedVariables false
def alA (m : Nat) (a : Int) : Int := if 0 ≤ a ∧ a ≤ 8 * m then (a + 7) / 8 * 8 else a
theorem align_post {Q : Ending → World → Prop} {a : Act} {W : World} {g : Nat} {x y : Value} (hbox : Box W g x y) (h : a.tmps[2]?.getD undef = .pointer (some ⟨g, 0, none⟩))
    (hd : a.defers = []) (hQ : Q (.returned (.agg #[x, y])) W) : bodyPost Try.prog Try.f90 Q Exit.ret a W :=
  bodyPost_ret (v := .agg #[x, y]) (by simp [results, Try.results90, go_sem, h, hbox.1, hbox.2.1]) hd hQ
theorem refalign_post {Q : Ending → World → Prop} {a : Act} {W : World} {g : Nat} {x y : Value} (hbox : Box W g x y) (h : a.tmps[2]?.getD undef = .pointer (some ⟨g, 0, none⟩))
    (hd : a.defers = []) (hQ : Q (.returned (.agg #[x, y])) W) : bodyPost Try.prog Try.f94 Q Exit.ret a W :=
  bodyPost_ret (v := .agg #[x, y]) (by simp [results, Try.results94, go_sem, h, hbox.1, hbox.2.1]) hd hQ
theorem align_yes (s : ByteArray) (a : Int) (w : World) (hs : s.size ≤ 1099511627776) (h0 : 0 ≤ a) (h1 : a ≤ 8 * s.size) :
    Calls Try.prog 90 #[.agg #[.string s, .int .i64 a]] w fun e w' => e = .returned (.agg #[.string s, .int .i64 ((a + 7) / 8 * 8)]) ∧ Below w.heap.size w w' := by
  go_enter Try.func90, Try.ntmps90
  go_wp2_with fail
  refine (isright_yes s a _ hs h0 h1).mono ?_
  rintro e w1 ⟨rfl, hb⟩
  obtain ⟨⟨c0, c1, f0, f1, _⟩, ⟨d0, d1, g0, g1, hz⟩, H⟩ := box2_kept hb
  have H1 := Lib.hid H
  clear hb H
  go_wp2
  exact align_post ((((Box.far ⟨d0, d1, g0, g1, hz⟩ (by simp) _).set0 _).set1 _)) rfl rfl ⟨rfl, bq_set (bq_set (bq_set H1.out _ (by simp) _) _ (by simp) _) _ (by simp) _⟩
theorem align_no (s : ByteArray) (a : Int) (w : World) (hs : s.size ≤ 1099511627776) (h : a < 0 ∨ 8 * s.size < a) :
    Calls Try.prog 90 #[.agg #[.string s, .int .i64 a]] w fun e w' => e = .returned (.agg #[.string s, .int .i64 a]) ∧ Below w.heap.size w w' := by
  have H := Lib.hid h
  clear h
  go_enter Try.func90, Try.ntmps90
  go_wp2_with fail
  refine (isright_no s a _ hs H.out).mono ?_
  rintro e w1 ⟨rfl, hb⟩
  obtain ⟨⟨c0, c1, f0, f1, _⟩, ⟨d0, d1, g0, g1, hz⟩, H⟩ := box2_kept hb
  have H1 := Lib.hid H
  clear hb H
  go_wp2
  exact align_post (((Box.set0 ⟨d0, d1, g0, g1, hz⟩ _).set1 _)) rfl rfl ⟨rfl, bq_set (bq_set H1.out _ (by simp) _) _ (by simp) _⟩
theorem align_any (s : ByteArray) (a : Int) (w : World) (hs : s.size ≤ 1099511627776) :
    Calls Try.prog 90 #[.agg #[.string s, .int .i64 a]] w fun e w' => e = .returned (.agg #[.string s, .int .i64 (alA s.size a)]) ∧ Below w.heap.size w w' := by
  unfold alA
  by_cases h : 0 ≤ a ∧ a ≤ 8 * s.size
  · rw [if_pos h]; exact align_yes s a w hs h.1 h.2
  · rw [if_neg h]; exact align_no s a w hs (by omega)
def cellInt (w : World) (g o : Nat) : Int := match w.cell? ⟨g, o, none⟩ with | some (.int _ n) => n | _ => 0
theorem cellInt_eq {w : World} {g o : Nat} {k : IntKind} {x : Int} (h : w.cell? ⟨g, o, none⟩ = some (.int k x)) : cellInt w g o = x := by unfold cellInt; rw [h]
def alM (w : World) (g : Nat) : Nat := ((8 - cellInt w g 1 % 8) % 8).toNat
def AlRel (s : ByteArray) (a : Int) (w wr : World) : Prop :=
  ∃ x : Int, Box wr w.heap.size (.string s) (.int .i64 x) ∧ Box wr (w.heap.size + 1) (.string ⟨#[]⟩) (.int .i64 0) ∧ Below w.heap.size w wr ∧ alA s.size x = alA s.size a
set_option maxHeartbeats 1000000 in
theorem refalign_any (s : ByteArray) (a : Int) (w : World) (hs : s.size ≤ 1099511627776) :
    Calls Try.prog 94 #[.agg #[.string s, .int .i64 a]] w fun e w' => e = .returned (.agg #[.string s, .int .i64 (alA s.size a)]) ∧ Below w.heap.size w w' := by
  go_enter Try.func94, Try.ntmps94
  go_wp2_with fail
  go_loopw [] (fun wr => AlRel s a w wr) (fun wr => alM wr w.heap.size)
  case atStart =>
    obtain ⟨h1, h2, h3⟩ := box2_kept (bq_refl ((w.alloc (.cells #[.string s, .int .i64 a] 51)).alloc (.cells #[.string ⟨#[]⟩, .int .i64 0] 51)))
    exact ⟨a, h1, h2, h3, rfl⟩
  case round =>
    obtain ⟨x, ⟨c0, c1, f0, f1, cz⟩, ⟨d0, d1, g0, g1, hz⟩, H, he⟩ := hrel
    have H1 := Lib.hid H
    have HE := Lib.hid he
    clear H he
    by_cases h : 0 ≤ x ∧ x ≤ 8 * s.size
    · obtain ⟨h0, h1⟩ := h
      by_cases hm : x % 8 = 0
      · have hbn : (x % 8 != 0) = false := by simp [hm]
        have HA : Hid (alA s.size a = x) := Lib.hid (by rw [← HE.out]; unfold alA; rw [if_pos ⟨h0, h1⟩]; omega)
        clear hm
        go_wp2_with fail
        refine (refright_yes s x _ hs h0 h1).mono ?_
        rintro e w1 ⟨rfl, hb⟩
        obtain ⟨c0', c1', f0', f1', cz'⟩ := Box.keep ⟨c0, c1, f0, f1, cz⟩ hb
        obtain ⟨d0', d1', g0', g1', hz'⟩ := Box.keep ⟨d0, d1, g0, g1, hz⟩ hb
        have H2 := Lib.hid (bq_trans H1.out hb)
        clear hb
        go_wp2_with fail
        exact refalign_post (((Box.set0 ⟨d0', d1', g0', g1', hz'⟩ _).set1 _)) rfl rfl ⟨by rw [HA.out], bq_set (bq_set H2.out _ (by simp) _) _ (by simp) _⟩
      · have hbn : (x % 8 != 0) = true := by rw [bne_iff_ne]; exact hm
        go_wp2_with fail
        refine (refright_yes s x _ hs h0 h1).mono ?_
        rintro e w1 ⟨rfl, hb⟩
        obtain ⟨c0', c1', f0', f1', cz'⟩ := Box.keep ⟨c0, c1, f0, f1, cz⟩ hb
        obtain ⟨d0', d1', g0', g1', hz'⟩ := Box.keep ⟨d0, d1, g0, g1, hz⟩ hb
        have H2 := Lib.hid (bq_trans H1.out hb)
        clear hb
        go_wp2_with fail
        have B1 : Box (w1.setCell ⟨w.heap.size, 1, none⟩ (.int .i64 (x + 1))) w.heap.size (.string s) (.int .i64 (x + 1)) := Box.set1 ⟨c0', c1', f0', f1', cz'⟩ _
        refine ⟨⟨x + 1, B1, Box.far ⟨d0', d1', g0', g1', hz'⟩ (by simp) _, bq_set H2.out _ (by simp) _, ?_⟩, ?_⟩
        · rw [← HE.out]; unfold alA; rw [if_pos (show 0 ≤ x + 1 ∧ x + 1 ≤ 8 * s.size by omega), if_pos ⟨h0, h1⟩]; omega
        · unfold alM
          rw [cellInt_eq B1.2.1, cellInt_eq c1]
          omega
    · have HA : Hid (alA s.size a = x) := Lib.hid (by rw [← HE.out]; unfold alA; rw [if_neg h])
      have HH : Hid (x < 0 ∨ 8 * s.size < x) := Lib.hid (by omega)
      clear h
      go_wp2_with fail
      refine (refright_no s x _ hs HH.out).mono ?_
      rintro e w1 ⟨rfl, hb⟩
      obtain ⟨c0', c1', f0', f1', cz'⟩ := Box.keep ⟨c0, c1, f0, f1, cz⟩ hb
      obtain ⟨d0', d1', g0', g1', hz'⟩ := Box.keep ⟨d0, d1, g0, g1, hz⟩ hb
      have H2 := Lib.hid (bq_trans H1.out hb)
      clear hb
      go_wp2_with fail
      exact refalign_post (((Box.set0 ⟨d0', d1', g0', g1', hz'⟩ _).set1 _)) rfl rfl ⟨by rw [HA.out], bq_set (bq_set H2.out _ (by simp) _) _ (by simp) _⟩
end Go.Proofs.Ythlnjipefeglpaa
