import Derived.Test.YthlnjipefeglpaaZU3
namespace Go.Proofs.Ythlnjipefeglpaa
open Go.RowKit
set_option linter.unusedVariables false
def sgV (s : ByteArray) (a n : Int) : Int := if 0 < n ∧ B.P2 n.toNat ≤ 2 * (plV s a n).toNat then plV s a n - B.P2 n.toNat else plV s a n
def sgR (s : ByteArray) (a n : Int) : Value := .tuple #[.int .i64 (sgV s a n), .agg #[.string (plS s a n), .int .i64 (plA s a n)], .int .i64 (plE s.size a n)]
theorem signed_post {Q : Ending → World → Prop} {a : Act} {W : World} {g : Nat} {x y u v : Value} (hbox : Box W g x y) (h4 : a.tmps[4]?.getD undef = u) (h5 : a.tmps[5]?.getD undef = .pointer (some ⟨g, 0, none⟩)) (h6 : a.tmps[6]?.getD undef = v)
    (hd : a.defers = []) (hQ : Q (.returned (.tuple #[u, .agg #[x, y], v])) W) : bodyPost Try.prog Try.f104 Q Exit.ret a W :=
  bodyPost_ret (v := .tuple #[u, .agg #[x, y], v]) (by simp [results, Try.results104, go_sem, h4, h5, h6, hbox.1, hbox.2.1]) hd hQ
theorem signed_err (s t : ByteArray) (a n A E : Int) (w : World) (hE : (E == 0) = false)
    (HP : Hid (∀ w, Calls Try.prog 103 #[.agg #[.string s, .int .i64 a], .int .i64 n] w fun e w' => e = .returned (.tuple #[.int .i64 0, .agg #[.string t, .int .i64 A], .int .i64 E]) ∧ Below w.heap.size w w')) :
    Calls Try.prog 104 #[.agg #[.string s, .int .i64 a], .int .i64 n] w fun e w' => e = .returned (.tuple #[.int .i64 0, .agg #[.string t, .int .i64 A], .int .i64 E]) ∧ Below w.heap.size w w' := by
  go_enter Try.func104, Try.ntmps104
  go_wp2_with fail
  refine (HP.out _).mono ?_
  rintro e w1 ⟨rfl, hb⟩
  obtain ⟨⟨c0, c1, _, _, _⟩, ⟨d0, d1, g0, g1, hz⟩, H⟩ := box2_kept hb
  have H1 := Lib.hid H
  clear hb H
  go_wp2_with fail
  have BN := box_new w1 (.string t) (.int .i64 A) 46
  have BR := Box.alloc ⟨d0, d1, g0, g1, hz⟩ (.cells #[.string t, .int .i64 A] 46)
  have HB := Lib.hid (bq_alloc H1.out (.cells #[.string t, .int .i64 A] 46))
  generalize w1.alloc (.cells #[.string t, .int .i64 A] 46) = W at BN BR HB ⊢
  have ne1 : ¬ w.heap.size + 1 = w1.heap.size := by omega
  have ne2 : ¬ w1.heap.size = w.heap.size + 1 := by omega
  obtain ⟨p0, p1, _, _, _⟩ := BN
  obtain ⟨q0, q1, k0, k1, kz⟩ := BR
  clear c0 c1 d0 d1 g0 g1 H1
  go_region_held3 (fun w' => w'.cell? ⟨w1.heap.size, 0, none⟩ = some (.string t) ∧ w'.cell? ⟨w1.heap.size, 1, none⟩ = some (.int .i64 A)) (go_keep) (fail)
  go_wp2
  exact signed_post (((Box.drewN ⟨q0, q1, k0, k1, kz⟩ _).set0 _).set1 _) rfl rfl rfl rfl ⟨rfl, bq_set (bq_set (bq_drewN HB.out _) _ (by simp) _) _ (by simp) _⟩
theorem signed_num (s t : ByteArray) (a A : Int) (n x : Nat) (w : World) (z : Int) (hn : n ≤ 31) (hx : x ≤ 2147483648)
    (HZ : Hid (x < B.P2 n ∧ (0 < n ∧ B.P2 n ≤ 2 * x ∧ z = (x : Int) - B.P2 n ∨ (n = 0 ∨ 2 * x < B.P2 n) ∧ z = x)))
    (HP : Hid (∀ w, Calls Try.prog 103 #[.agg #[.string s, .int .i64 a], .int .i64 n] w fun e w' => e = .returned (.tuple #[.int .i64 x, .agg #[.string t, .int .i64 A], .int .i64 0]) ∧ Below w.heap.size w w')) :
    Calls Try.prog 104 #[.agg #[.string s, .int .i64 a], .int .i64 n] w fun e w' => e = .returned (.tuple #[.int .i64 z, .agg #[.string t, .int .i64 A], .int .i64 0]) ∧ Below w.heap.size w w' := by
  by_cases hn0 : n = 0
  · have hz0 : z = x := by rcases HZ.out.2 with h | h <;> omega
    subst hn0
    subst hz0
    clear HZ
    go_enter Try.func104, Try.ntmps104
    go_wp2_with fail
    refine (HP.out _).mono ?_
    rintro e w1 ⟨rfl, hb⟩
    obtain ⟨⟨c0, c1, _, _, _⟩, ⟨d0, d1, g0, g1, hz⟩, H⟩ := box2_kept hb
    have H1 := Lib.hid H
    clear hb H
    go_wp2_with fail
    have BN := box_new w1 (.string t) (.int .i64 A) 46
    have BR := Box.alloc ⟨d0, d1, g0, g1, hz⟩ (.cells #[.string t, .int .i64 A] 46)
    have HB := Lib.hid (bq_alloc H1.out (.cells #[.string t, .int .i64 A] 46))
    generalize w1.alloc (.cells #[.string t, .int .i64 A] 46) = W at BN BR HB ⊢
    have ne1 : ¬ w.heap.size + 1 = w1.heap.size := by omega
    have ne2 : ¬ w1.heap.size = w.heap.size + 1 := by omega
    obtain ⟨p0, p1, _, _, _⟩ := BN
    obtain ⟨q0, q1, k0, k1, kz⟩ := BR
    clear c0 c1 d0 d1 g0 g1 H1
    go_region_held3 (fun w' => w'.cell? ⟨w1.heap.size, 0, none⟩ = some (.string t) ∧ w'.cell? ⟨w1.heap.size, 1, none⟩ = some (.int .i64 A)) (go_keep) (fail)
    go_wp2
    exact signed_post (((Box.drewN ⟨q0, q1, k0, k1, kz⟩ _).set0 _).set1 _) rfl rfl rfl rfl ⟨rfl, bq_set (bq_set (bq_drewN HB.out _) _ (by simp) _) _ (by simp) _⟩
  · have hn1 : 1 ≤ n := by omega
    have hp := B.P2_succ (n - 1)
    rw [show n - 1 + 1 = n by omega] at hp
    have hpb : B.P2 n ≤ 2147483648 := B.P2_le (b := 31) hn
    have hp0 := B.P2_pos (n - 1)
    obtain ⟨hxp, hzz⟩ := HZ.out
    clear hn0 HZ
    by_cases ht : B.P2 n ≤ 2 * x
    · have hb1 : ((x : Int) / 2 ^ (n - 1) == 1) = true := by
        rw [div_pow, beq_iff_eq, show x / B.P2 (n - 1) = 1 from (Nat.div_eq_iff hp0).2 (by omega)]
        rfl
      have HE : Hid (wrap64 ((x : Int) - wrap64 (2 ^ n)) = z) := Lib.hid (by rw [P2_cast, i64_id (B.P2 n : Int) (by omega) (by omega), i64_id _ (by omega) (by omega)]; omega)
      clear hp hpb hp0 hxp hzz ht
      go_enter Try.func104, Try.ntmps104
      go_wp2_with fail
      refine (HP.out _).mono ?_
      rintro e w1 ⟨rfl, hb⟩
      obtain ⟨⟨c0, c1, _, _, _⟩, ⟨d0, d1, g0, g1, hz⟩, H⟩ := box2_kept hb
      have H1 := Lib.hid H
      clear hb H
      go_wp2_with fail
      have BN := box_new w1 (.string t) (.int .i64 A) 46
      have BR := Box.alloc ⟨d0, d1, g0, g1, hz⟩ (.cells #[.string t, .int .i64 A] 46)
      have HB := Lib.hid (bq_alloc H1.out (.cells #[.string t, .int .i64 A] 46))
      generalize w1.alloc (.cells #[.string t, .int .i64 A] 46) = W at BN BR HB ⊢
      have ne1 : ¬ w.heap.size + 1 = w1.heap.size := by omega
      have ne2 : ¬ w1.heap.size = w.heap.size + 1 := by omega
      obtain ⟨p0, p1, _, _, _⟩ := BN
      obtain ⟨q0, q1, k0, k1, kz⟩ := BR
      clear c0 c1 d0 d1 g0 g1 H1
      go_region_held3 (fun w' => w'.cell? ⟨w1.heap.size, 0, none⟩ = some (.string t) ∧ w'.cell? ⟨w1.heap.size, 1, none⟩ = some (.int .i64 A)) (go_keep) (fail)
      go_wp2
      exact signed_post (((Box.drewN ⟨q0, q1, k0, k1, kz⟩ _).set0 _).set1 _) rfl rfl rfl rfl ⟨by rw [← HE.out]; rfl, bq_set (bq_set (bq_drewN HB.out _) _ (by simp) _) _ (by simp) _⟩
    · have hb1 : ((x : Int) / 2 ^ (n - 1) == 1) = false := by
        rw [div_pow, beq_eq_false_iff_ne, Nat.div_eq_of_lt (by omega)]
        decide
      obtain rfl : z = x := by omega
      clear hp hpb hp0 hxp hzz ht
      go_enter Try.func104, Try.ntmps104
      go_wp2_with fail
      refine (HP.out _).mono ?_
      rintro e w1 ⟨rfl, hb⟩
      obtain ⟨⟨c0, c1, _, _, _⟩, ⟨d0, d1, g0, g1, hz⟩, H⟩ := box2_kept hb
      have H1 := Lib.hid H
      clear hb H
      go_wp2_with fail
      have BN := box_new w1 (.string t) (.int .i64 A) 46
      have BR := Box.alloc ⟨d0, d1, g0, g1, hz⟩ (.cells #[.string t, .int .i64 A] 46)
      have HB := Lib.hid (bq_alloc H1.out (.cells #[.string t, .int .i64 A] 46))
      generalize w1.alloc (.cells #[.string t, .int .i64 A] 46) = W at BN BR HB ⊢
      have ne1 : ¬ w.heap.size + 1 = w1.heap.size := by omega
      have ne2 : ¬ w1.heap.size = w.heap.size + 1 := by omega
      obtain ⟨p0, p1, _, _, _⟩ := BN
      obtain ⟨q0, q1, k0, k1, kz⟩ := BR
      clear c0 c1 d0 d1 g0 g1 H1
      go_region_held3 (fun w' => w'.cell? ⟨w1.heap.size, 0, none⟩ = some (.string t) ∧ w'.cell? ⟨w1.heap.size, 1, none⟩ = some (.int .i64 A)) (go_keep) (fail)
      go_wp2
      exact signed_post (((Box.drewN ⟨q0, q1, k0, k1, kz⟩ _).set0 _).set1 _) rfl rfl rfl rfl ⟨rfl, bq_set (bq_set (bq_drewN HB.out _) _ (by simp) _) _ (by simp) _⟩
theorem sg_cases (s : ByteArray) (a n : Int) : (∃ E A t, plR s a n = .tuple #[.int .i64 0, .agg #[.string t, .int .i64 A], .int .i64 E] ∧ (E == 0) = false ∧ sgR s a n = plR s a n) ∨
    (∃ N x : Nat, ∃ A z t, n = N ∧ N ≤ 31 ∧ x ≤ 2147483648 ∧ plR s a n = .tuple #[.int .i64 x, .agg #[.string t, .int .i64 A], .int .i64 0] ∧ sgR s a n = .tuple #[.int .i64 z, .agg #[.string t, .int .i64 A], .int .i64 0] ∧
      (x < B.P2 N ∧ (0 < N ∧ B.P2 N ≤ 2 * x ∧ z = (x : Int) - B.P2 N ∨ (N = 0 ∨ 2 * x < B.P2 N) ∧ z = x))) := by
  by_cases h : plE s.size a n = 0
  · right
    have hn : 0 ≤ n ∧ n ≤ 31 := by
      unfold plE at h
      split at h
      · omega
      · cases h
    obtain ⟨N, rfl⟩ := Int.eq_ofNat_of_zero_le hn.1
    obtain ⟨x, hx⟩ : ∃ x : Nat, x = B.fld s.data.toList a.toNat N := ⟨_, rfl⟩
    have hv : plV s a N = x := by unfold plV; rw [if_pos h, hx]; rfl
    have hlt : x < B.P2 N := by rw [hx]; exact B.fld_lt _ _ _
    have hP : B.P2 N ≤ B.P2 31 := B.P2_le (by omega)
    have hP2 : B.P2 31 = 2147483648 := rfl
    refine ⟨N, x, plA s a N, sgV s a N, plS s a N, rfl, by omega, by omega, by rw [plR, hv, h], by rw [sgR, h], hlt, ?_⟩
    unfold sgV
    rw [hv, Int.toNat_natCast, Int.toNat_natCast]
    by_cases c : 0 < (N : Int) ∧ B.P2 N ≤ 2 * x
    · left; rw [if_pos c]; exact ⟨by omega, c.2, rfl⟩
    · right; rw [if_neg c]; exact ⟨by omega, rfl⟩
  · left
    have hv : plV s a n = 0 := if_neg h
    refine ⟨plE s.size a n, plA s a n, plS s a n, by rw [plR, hv], by rw [beq_eq_false_iff_ne]; exact h, ?_⟩
    have hs : sgV s a n = 0 := by
      unfold sgV
      rw [hv, if_neg]
      have := B.P2_pos n.toNat
      simp
      omega
    rw [sgR, hs, plR, hv]
theorem signed_any (s : ByteArray) (a n : Int) (w : World) (hs : s.size ≤ 1099511627776) :
    Calls Try.prog 104 #[.agg #[.string s, .int .i64 a], .int .i64 n] w fun e w' => e = .returned (sgR s a n) ∧ Below w.heap.size w w' := by
  have HP := fun w => plain_any s a n w hs
  rcases sg_cases s a n with ⟨E, A, t, h1, h2, h3⟩ | ⟨N, x, A, z, t, rfl, h1, h2, h3, h4, h5⟩
  · rw [h3, h1]; rw [h1] at HP; exact signed_err s t a n A E w h2 (Lib.hid HP)
  · rw [h4]; rw [h3] at HP; exact signed_num s t a A N x w z h1 h2 (Lib.hid h5) (Lib.hid HP)
end Go.Proofs.Ythlnjipefeglpaa
namespace Go.Proofs.Ythlnjipefeglpaa
open Go.RowKit
set_option linter.unusedVariables false
def alA (m : Nat) (a : Int) : Int := if 0 ≤ a ∧ a ≤ 8 * m then (a + 7) / 8 * 8 else a
theorem align_post {Q : Ending → World → Prop} {a : Act} {W : World} {g : Nat} {x y : Value} (hbox : Box W g x y) (h : a.tmps[2]?.getD undef = .pointer (some ⟨g, 0, none⟩))
    (hd : a.defers = []) (hQ : Q (.returned (.agg #[x, y])) W) : bodyPost Try.prog Try.f90 Q Exit.ret a W :=
  bodyPost_ret (v := .agg #[x, y]) (by simp [results, Try.results90, go_sem, h, hbox.1, hbox.2.1]) hd hQ
theorem align_yes (s : ByteArray) (a : Int) (w : World) (hs : s.size ≤ 1099511627776) (h0 : 0 ≤ a) (h1 : a ≤ 8 * s.size) :
    Calls Try.prog 90 #[.agg #[.string s, .int .i64 a]] w fun e w' => e = .returned (.agg #[.string s, .int .i64 ((a + 7) / 8 * 8)]) ∧ Below w.heap.size w w' := by
  go_enter Try.func90, Try.ntmps90
  go_wp2_with fail
  refine (isright_yes s a _ hs h0 h1).mono ?_
  rintro e w1 ⟨rfl, hb⟩
  obtain ⟨⟨c0, c1, f0, f1, _⟩, ⟨d0, d1, g0, g1, hz⟩, H⟩ := box2_kept hb
  have H1 := Lib.hid H
  clear hb H
  go_wp2
  exact align_post ((((Box.far ⟨d0, d1, g0, g1, hz⟩ (by simp) _).set0 _).set1 _)) rfl rfl ⟨rfl, bq_set (bq_set (bq_set H1.out _ (by simp) _) _ (by simp) _) _ (by simp) _⟩
theorem align_no (s : ByteArray) (a : Int) (w : World) (hs : s.size ≤ 1099511627776) (h : a < 0 ∨ 8 * s.size < a) :
    Calls Try.prog 90 #[.agg #[.string s, .int .i64 a]] w fun e w' => e = .returned (.agg #[.string s, .int .i64 a]) ∧ Below w.heap.size w w' := by
  have H := Lib.hid h
  clear h
  go_enter Try.func90, Try.ntmps90
  go_wp2_with fail
  refine (isright_no s a _ hs H.out).mono ?_
  rintro e w1 ⟨rfl, hb⟩
  obtain ⟨⟨c0, c1, f0, f1, _⟩, ⟨d0, d1, g0, g1, hz⟩, H⟩ := box2_kept hb
  have H1 := Lib.hid H
  clear hb H
  go_wp2
  exact align_post (((Box.set0 ⟨d0, d1, g0, g1, hz⟩ _).set1 _)) rfl rfl ⟨rfl, bq_set (bq_set H1.out _ (by simp) _) _ (by simp) _⟩
theorem align_any (s : ByteArray) (a : Int) (w : World) (hs : s.size ≤ 1099511627776) :
    Calls Try.prog 90 #[.agg #[.string s, .int .i64 a]] w fun e w' => e = .returned (.agg #[.string s, .int .i64 (alA s.size a)]) ∧ Below w.heap.size w w' := by
  unfold alA
  by_cases h : 0 ≤ a ∧ a ≤ 8 * s.size
  · rw [if_pos h]; exact align_yes s a w hs h.1 h.2
  · rw [if_neg h]; exact align_no s a w hs (by omega)
def cellInt (w : World) (g o : Nat) : Int := match w.cell? ⟨g, o, none⟩ with | some (.int _ n) => n | _ => 0
def alM (w : World) (g : Nat) : Nat := ((8 - cellInt w g 1 % 8) % 8).toNat
def AlRel (s : ByteArray) (a : Int) (w wr : World) : Prop :=
  ∃ x : Int, Box wr w.heap.size (.string s) (.int .i64 x) ∧ Box wr (w.heap.size + 1) (.string ⟨#[]⟩) (.int .i64 0) ∧ Below w.heap.size w wr ∧ alA s.size x = alA s.size a
end Go.Proofs.Ythlnjipefeglpaa
namespace Go.Proofs.Ythlnjipefeglpaa
open Go.RowKit
set_option linter.unusedVariables false
def errB (e : Int) : Value := .tuple #[.string ⟨#[]⟩, .agg #[.string ⟨#[]⟩, .int .i64 0], .int .i64 e]
def byE (m : Nat) (a n : Int) : Int := if 0 ≤ a ∧ a ≤ 8 * m ∧ 0 ≤ n then (if (m : Int) - (a + 7) / 8 < n then 2 else 0) else 1
def byB (s : ByteArray) (a n : Int) : ByteArray := if byE s.size a n = 0 then s.extract ((a + 7) / 8).toNat (((a + 7) / 8).toNat + n.toNat) else ⟨#[]⟩
def byS (s : ByteArray) (a n : Int) : ByteArray := if byE s.size a n = 0 then s else ⟨#[]⟩
def byA (s : ByteArray) (a n : Int) : Int := if byE s.size a n = 0 then 8 * ((a + 7) / 8 + n) else 0
def byR (s : ByteArray) (a n : Int) : Value := .tuple #[.string (byB s a n), .agg #[.string (byS s a n), .int .i64 (byA s a n)], .int .i64 (byE s.size a n)]
theorem byR_arg {s : ByteArray} {a n : Int} (h : ¬ (0 ≤ a ∧ a ≤ 8 * s.size ∧ 0 ≤ n)) : byR s a n = errB 1 := by
  have e : byE s.size a n = 1 := if_neg h
  simp [byR, byB, byS, byA, e, errB]
theorem byR_short {s : ByteArray} {a n : Int} (h : 0 ≤ a ∧ a ≤ 8 * s.size ∧ 0 ≤ n) (h2 : (s.size : Int) - (a + 7) / 8 < n) : byR s a n = errB 2 := by
  have e : byE s.size a n = 2 := by unfold byE; rw [if_pos h, if_pos h2]
  simp [byR, byB, byS, byA, e, errB]
theorem byR_ok {s : ByteArray} {a : Int} {n k : Nat} (h : 0 ≤ a ∧ a ≤ 8 * s.size ∧ 0 ≤ (n : Int)) (hk : (k : Int) = (a + 7) / 8) (h2 : ¬ (s.size : Int) - (a + 7) / 8 < n) :
    byR s a n = .tuple #[.string (s.extract k (k + n)), .agg #[.string s, .int .i64 (8 * ((k : Int) + (n : Int)))], .int .i64 0] := by
  have e : byE s.size a n = 0 := by unfold byE; rw [if_pos h, if_neg h2]
  simp [byR, byB, byS, byA, e, ← hk]
theorem bytes_post {Q : Ending → World → Prop} {a : Act} {W : World} {g : Nat} {x y u v : Value} (hbox : Box W g x y) (h4 : a.tmps[4]?.getD undef = u) (h5 : a.tmps[5]?.getD undef = .pointer (some ⟨g, 0, none⟩)) (h6 : a.tmps[6]?.getD undef = v)
    (hd : a.defers = []) (hQ : Q (.returned (.tuple #[u, .agg #[x, y], v])) W) : bodyPost Try.prog Try.f76 Q Exit.ret a W :=
  bodyPost_ret (v := .tuple #[u, .agg #[x, y], v]) (by simp [results, Try.results76, go_sem, h4, h5, h6, hbox.1, hbox.2.1]) hd hQ
theorem bytes_bad1 (s : ByteArray) (a n : Int) (w : World) (hs : s.size ≤ 1099511627776) (h : a < 0 ∨ 8 * s.size < a) :
    Calls Try.prog 76 #[.agg #[.string s, .int .i64 a], .int .i64 n] w fun e w' => e = .returned (errB 1) ∧ Below w.heap.size w w' := by
  have H := Lib.hid h
  clear h
  go_enter Try.func76, Try.ntmps76
  go_wp2_with fail
  refine (isright_no s a _ hs H.out).mono ?_
  rintro e w1 ⟨rfl, hb⟩
  obtain ⟨⟨c0, c1, f0, f1, _⟩, ⟨d0, d1, g0, g1, hz⟩, H⟩ := box2_kept hb
  have H1 := Lib.hid H
  clear hb H
  go_wp2_with fail
  exact bytes_post (((Box.set0 ⟨d0, d1, g0, g1, hz⟩ _).set1 _)) rfl rfl rfl rfl ⟨rfl, bq_set (bq_set H1.out _ (by simp) _) _ (by simp) _⟩
theorem bytes_bad2 (s : ByteArray) (a n : Int) (w : World) (hs : s.size ≤ 1099511627776) (h0 : 0 ≤ a) (h1 : a ≤ 8 * s.size) (h : n < 0) :
    Calls Try.prog 76 #[.agg #[.string s, .int .i64 a], .int .i64 n] w fun e w' => e = .returned (errB 1) ∧ Below w.heap.size w w' := by
  go_enter Try.func76, Try.ntmps76
  go_wp2_with fail
  refine (isright_yes s a _ hs h0 h1).mono ?_
  rintro e w1 ⟨rfl, hb⟩
  obtain ⟨⟨c0, c1, f0, f1, _⟩, ⟨d0, d1, g0, g1, hz⟩, H⟩ := box2_kept hb
  have H1 := Lib.hid H
  clear hb H
  go_wp2_with fail
  exact bytes_post (((Box.set0 ⟨d0, d1, g0, g1, hz⟩ _).set1 _)) rfl rfl rfl rfl ⟨rfl, bq_set (bq_set H1.out _ (by simp) _) _ (by simp) _⟩
theorem bytes_short (s : ByteArray) (a n : Int) (k : Nat) (w : World) (hs : s.size ≤ 1099511627776) (h0 : 0 ≤ a) (h1 : a ≤ 8 * s.size) (hn : 0 ≤ n) (hk : k ≤ s.size) (h : (s.size : Int) - k < n)
    (HA : Hid (∀ w, Calls Try.prog 90 #[.agg #[.string s, .int .i64 a]] w fun e w' => e = .returned (.agg #[.string s, .int .i64 ((k : Int) * 8)]) ∧ Below w.heap.size w w')) :
    Calls Try.prog 76 #[.agg #[.string s, .int .i64 a], .int .i64 n] w fun e w' => e = .returned (errB 2) ∧ Below w.heap.size w w' := by
  have hfd : ∀ w : World, (Instr.field 46 (.agg #[.string s, .int .i64 ((k : Int) * 8)]) 1).run Try.prog w = .ok (.int .i64 ((k : Int) * 8)) w := fun _ => by kernel_rfl
  go_enter Try.func76, Try.ntmps76
  go_wp2_with fail
  refine (isright_yes s a _ hs h0 h1).mono ?_
  rintro e w1 ⟨rfl, hb⟩
  obtain ⟨⟨c0, c1, f0, f1, cz⟩, ⟨d0, d1, g0, g1, hz⟩, H⟩ := box2_kept hb
  have H1 := Lib.hid H
  clear hb H
  go_wp2_with fail
  refine (HA.out _).mono ?_
  rintro e w2 ⟨rfl, hb⟩
  obtain ⟨c0', c1', f0', f1', cz'⟩ := Box.keep ⟨c0, c1, f0, f1, cz⟩ hb
  obtain ⟨d0', d1', g0', g1', hz'⟩ := Box.keep ⟨d0, d1, g0, g1, hz⟩ hb
  have H2 := Lib.hid (bq_trans H1.out hb)
  clear hb
  go_wp2_with fail
  exact bytes_post (((Box.set0 ⟨d0', d1', g0', g1', hz'⟩ _).set1 _)) rfl rfl rfl rfl ⟨rfl, bq_set (bq_set H2.out _ (by simp) _) _ (by simp) _⟩
set_option maxHeartbeats 1000000 in
theorem bytes_ok (s : ByteArray) (a : Int) (k n : Nat) (w : World) (hs : s.size ≤ 1099511627776) (h0 : 0 ≤ a) (h1 : a ≤ 8 * s.size) (hk : k + n ≤ s.size)
    (HA : Hid (∀ w, Calls Try.prog 90 #[.agg #[.string s, .int .i64 a]] w fun e w' => e = .returned (.agg #[.string s, .int .i64 ((k : Int) * 8)]) ∧ Below w.heap.size w w')) :
    Calls Try.prog 76 #[.agg #[.string s, .int .i64 a], .int .i64 n] w fun e w' => e = .returned (.tuple #[.string (s.extract k (k + n)), .agg #[.string s, .int .i64 (8 * ((k : Int) + (n : Int)))], .int .i64 0]) ∧ Below w.heap.size w w' := by
  have hfd : ∀ w : World, (Instr.field 46 (.agg #[.string s, .int .i64 ((k : Int) * 8)]) 1).run Try.prog w = .ok (.int .i64 ((k : Int) * 8)) w := fun _ => by kernel_rfl
  go_enter Try.func76, Try.ntmps76
  go_wp2_with fail
  refine (isright_yes s a _ hs h0 h1).mono ?_
  rintro e w1 ⟨rfl, hb⟩
  obtain ⟨⟨c0, c1, f0, f1, cz⟩, ⟨d0, d1, g0, g1, hz⟩, H⟩ := box2_kept hb
  have H1 := Lib.hid H
  clear hb H
  go_wp2_with fail
  refine (HA.out _).mono ?_
  rintro e w2 ⟨rfl, hb⟩
  obtain ⟨c0', c1', f0', f1', cz'⟩ := Box.keep ⟨c0, c1, f0, f1, cz⟩ hb
  obtain ⟨d0', d1', g0', g1', hz'⟩ := Box.keep ⟨d0, d1, g0, g1, hz⟩ hb
  have H2 := Lib.hid (bq_trans H1.out hb)
  clear hb
  go_wp2_with fail
  clear c0 c1 f0 f1 cz d0 d1 g0 g1 hz H1
  have b1 : (0 : Int) ≤ (k : Int) := by omega
  have b2 : (k : Int) ≤ (k : Int) + (n : Int) := by omega
  have b3 : (k : Int) + (n : Int) ≤ (s.size : Int) := by omega
  have wr1 := i64_wrap ((k : Int) + (n : Int)) (by omega) (by omega)
  have wr2 := i64_wrap (8 * ((k : Int) + (n : Int))) (by omega) (by omega)
  have tn : ((k : Int) + (n : Int)).toNat = k + n := by omega
  go_region_held3 (fun w' => w'.cell? ⟨w.heap.size, 0, none⟩ = some (.string s)) (go_keep) (fail)
  all_goals go_wp2
  exact bytes_post ((((Box.drewN ⟨d0', d1', g0', g1', hz'⟩ _).set0 _).set1 _)) rfl rfl rfl rfl ⟨rfl, bq_set (bq_set (bq_drewN H2.out _) _ (by simp) _) _ (by simp) _⟩
theorem bytes_any (s : ByteArray) (a n : Int) (w : World) (hs : s.size ≤ 1099511627776) :
    Calls Try.prog 76 #[.agg #[.string s, .int .i64 a], .int .i64 n] w fun e w' => e = .returned (byR s a n) ∧ Below w.heap.size w w' := by
  by_cases h : 0 ≤ a ∧ a ≤ 8 * s.size ∧ 0 ≤ n
  · obtain ⟨k, hk⟩ : ∃ k : Nat, (k : Int) = (a + 7) / 8 := ⟨((a + 7) / 8).toNat, by omega⟩
    have HA := fun w => align_any s a w hs
    rw [alA, if_pos ⟨h.1, h.2.1⟩, ← hk] at HA
    by_cases h2 : (s.size : Int) - (a + 7) / 8 < n
    · rw [byR_short h h2]; exact bytes_short s a n k w hs h.1 h.2.1 h.2.2 (by omega) (by omega) (Lib.hid HA)
    · obtain ⟨N, rfl⟩ := Int.eq_ofNat_of_zero_le h.2.2
      rw [byR_ok h hk h2]; exact bytes_ok s a k N w hs h.1 h.2.1 (by omega) (Lib.hid HA)
  · rw [byR_arg h]
    by_cases h3 : 0 ≤ a ∧ a ≤ 8 * s.size
    · exact bytes_bad2 s a n w hs h3.1 h3.2 (by omega)
    · exact bytes_bad1 s a n w hs (by omega)
end Go.Proofs.Ythlnjipefeglpaa
namespace Go.Proofs.Ythlnjipefeglpaa
open Go.RowKit
set_option linter.unusedVariables false
def mxW (zs : List Int) : Nat := zs.foldl (fun m v => max m (wd v)) 0
def mxP (zs : List Int) : Int := zs.foldl (fun m v => max m v) 0
theorem mxW_snoc (zs : List Int) (v : Int) : mxW (zs ++ [v]) = max (mxW zs) (wd v) := by simp [mxW]
theorem mxW_take (zs : List Int) (k : Nat) (h : k < zs.length) : mxW (zs.take (k + 1)) = max (mxW (zs.take k)) (wd zs[k]) := by
  rw [List.take_succ_eq_append_getElem h, mxW_snoc]
def MxRel (zs : List Int) (m i : Value) : Prop := ∃ k x : Nat, k ≤ zs.length ∧ i = .int .i64 k ∧ m = .int .i64 (x : Int) ∧ x = mxW (zs.take k) ∧ x ≤ 64
def MpRel (zs : List Int) (m i : Value) : Prop := ∃ k : Nat, ∃ x : Int, k ≤ zs.length ∧ i = .int .i64 k ∧ m = .int .i64 x ∧ x = mxP (zs.take k) ∧ 0 ≤ x ∧ x ≤ 9223372036854775807
theorem max_nat (x y : Nat) : (if x < y then (y : Int) else (x : Int)) = ((max x y : Nat) : Int) := by rw [Nat.max_def]; split <;> split <;> omega
set_option maxHeartbeats 1000000 in
theorem width_list (zs : List Int) (a : Option Addr) (b o c : Nat) (w : World) (hl : zs.length ≤ 1000000) (ha : Hid (zs.length = 0 ∨ a = some ⟨b, o, none⟩)) (hz : Hid (∀ i (h : i < zs.length), -9223372036854775808 ≤ zs[i] ∧ zs[i] ≤ 9223372036854775807))
    (hc : Hid (∀ i (h : i < zs.length), w.cell? ⟨b, o + i, none⟩ = some (.int .i64 zs[i]))) :
    Calls Try.prog 85 #[.slice a zs.length c] w fun e w' => e = .returned (.int .i64 (mxW zs : Int)) ∧ w = w' := by
  go_enter Try.func85, Try.ntmps85
  go_wp2
  go_loop [3, 8] (fun m i => MxRel zs m i) (fun _ i => zs.length - (intOf i).toNat)
  case atStart => exact ⟨0, 0, by omega, rfl, rfl, rfl, by omega⟩
  case round =>
    obtain ⟨k, x, hk, rfl, rfl, hx, hx2⟩ := hrel
    have HX := Lib.hid hx
    clear hx
    by_cases hlt : k < zs.length
    · obtain rfl : a = some ⟨b, o, none⟩ := ha.out.resolve_left (by omega)
      have hcell := hc.out k hlt
      have hbd := hz.out k hlt
      have hstep := mxW_take zs k hlt
      rw [← HX.out] at hstep
      generalize zs[k] = z at *
      have hw64 := wd_le z hbd.1 hbd.2
      have HW := Lib.hid (fun w => width_any z w hbd.1 hbd.2)
      generalize wd z = y at *
      have HS := Lib.hid hstep
      clear hstep
      go_wp2_with (go_at_call 101; refine (HW.out _).mono ?_; rintro e w' ⟨rfl, rfl⟩)
      rw [max_nat]
      go_round
      case rel => exact ⟨k + 1, max x y, by omega, by go_num, rfl, HS.out.symm, by omega⟩
      case measure => simp [intOf]; omega
    · obtain rfl : k = zs.length := by omega
      have HL : Hid (mxW zs = x) := Lib.hid (by rw [HX.out, List.take_length])
      go_wp2
      go_ret
      exact ⟨ret_int (by rw [HL.out]), rfl⟩
end Go.Proofs.Ythlnjipefeglpaa
