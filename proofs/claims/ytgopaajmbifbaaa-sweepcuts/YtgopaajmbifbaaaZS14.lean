import Derived.Test.YtgopaajmbifbaaaZS0
import Derived.OpenShut
import Derived.Test.YtgopaajmbifbaaaZS11
namespace Go.Proofs.Ytgopaajmbifbaaa
open Go.RowKit Go.WideShapes Go.ChangeShapes
set_option linter.unusedVariables false
theorem okWide_row {P : Program} {w : World} {r : Reach} {base : Nat} {t : TypeId} {v : Value} {d : TypeDesc} (hu : P.underlying t = some d) (hd : (match d with | .struct _ | .array _ _ => true | _ => false) = true) (h : Value.okWide P w r base t v) :
    ∃ cs, v = .agg cs ∧ cs.size = P.cellsOf t ∧ Row.okWide P w r base t cs := by
  cases d <;> first | (simp only [Value.okWide, hu] at h; exact h) | cases hd
theorem open_row {P : Program} {w : World} {r : Reach} {base : Nat} {t : TypeId} {v : Value} {d : TypeDesc} {ts : List TypeId} (hu : P.underlying t = some d) (hd : (match d with | .struct _ | .array _ _ => true | _ => false) = true)
    (hts : P.cellTypes P.depth t = some ts) (hn : P.cellsOf t = ts.length) (h : Value.okWide P w r base t v) :
    ∃ cs : Array Value, v = .agg cs ∧ cs.size = ts.length ∧ ∀ (i : Nat) (c : Value), cs[i]? = some c → ∃ u, ts[i]? = some u ∧ Cell.okWide P w r base u c := by
  obtain ⟨cs, rfl, hs, us, hus, _, hc⟩ := okWide_row hu hd h
  rw [hts] at hus
  cases hus
  refine ⟨cs, rfl, hs.trans hn, fun i c hi => ?_⟩
  have hlt : i < ts.length := by rw [← hn, ← hs]; exact (Array.getElem?_eq_some_iff.1 hi).1
  obtain ⟨u, hu, hk⟩ := hc i c hi
  rw [Nat.mod_eq_of_lt hlt] at hu
  exact ⟨u, hu, hk⟩
theorem okWide_i64 {P : Program} {w : World} {r : Reach} {base : Nat} {t : TypeId} {v : Value} (hu : P.underlying t = some (.int .i64)) (h : Cell.okWide P w r base t v) : ∃ z : Int, v = .int .i64 z ∧ (-9223372036854775808 ≤ z ∧ z ≤ 9223372036854775807) := by
  unfold Cell.okWide at h
  rw [hu] at h
  cases v <;> simp only [Cell.ok, hu] at h
  obtain ⟨rfl, h1, h2⟩ := h
  exact ⟨_, rfl, h1, h2⟩
theorem ints_of (n : Nat) : ∀ cs : List Value, cs.length = n → (∀ c ∈ cs, ∃ z : Int, c = .int .i64 z ∧ (-9223372036854775808 ≤ z ∧ z ≤ 9223372036854775807)) → ∃ zs : List Int, zs.length = n ∧ cs = zs.map (Value.int .i64 ·) ∧ ∀ z ∈ zs, -9223372036854775808 ≤ z ∧ z ≤ 9223372036854775807 := by
  induction n with
  | zero =>
    intro cs h _
    exact ⟨[], rfl, List.eq_nil_of_length_eq_zero h, fun z hz => by simp at hz⟩
  | succ n ih =>
    intro cs h hc
    match cs, h with
    | c :: cs, h =>
      obtain ⟨z, rfl, hz⟩ := hc c (by simp)
      obtain ⟨zs, h1, rfl, h3⟩ := ih cs (by simpa using h) fun x hx => hc x (by simp [hx])
      refine ⟨z :: zs, by simp [h1], rfl, fun y hy => ?_⟩
      rcases List.mem_cons.1 hy with rfl | hy
      · exact hz
      · exact h3 y hy
theorem open_ints {P : Program} {w : World} {r : Reach} {base : Nat} {t : TypeId} {v : Value} {d : TypeDesc} {ts : List TypeId} (hu : P.underlying t = some d) (hd : (match d with | .struct _ | .array _ _ => true | _ => false) = true)
    (hts : P.cellTypes P.depth t = some ts) (hn : P.cellsOf t = ts.length) (hall : ∀ u ∈ ts, P.underlying u = some (.int .i64)) (h : Value.okWide P w r base t v) :
    ∃ zs : List Int, v = .agg (zs.map (Value.int .i64 ·)).toArray ∧ zs.length = ts.length ∧ ∀ z ∈ zs, -9223372036854775808 ≤ z ∧ z ≤ 9223372036854775807 := by
  obtain ⟨cs, rfl, hs, hc⟩ := open_row hu hd hts hn h
  obtain ⟨zs, h1, h2, h3⟩ := ints_of ts.length cs.toList (by simpa using hs) (fun c hcm => by
    obtain ⟨i, hi, rfl⟩ := List.getElem_of_mem hcm
    obtain ⟨u, hu, hk⟩ := hc i cs.toList[i] (by rw [← Array.getElem?_toList]; exact List.getElem?_eq_getElem hi)
    exact okWide_i64 (hall u (List.mem_of_getElem? hu)) hk)
  refine ⟨zs, ?_, h1, h3⟩
  rw [← h2]
theorem ints6 {zs : List Int} (h : zs.length = 6) (hb : ∀ z ∈ zs, -9223372036854775808 ≤ z ∧ z ≤ 9223372036854775807) : ∃ a b c d e f : Int, zs = [a, b, c, d, e, f] ∧ (-9223372036854775808 ≤ a ∧ a ≤ 9223372036854775807) ∧ (-9223372036854775808 ≤ b ∧ b ≤ 9223372036854775807) ∧ (-9223372036854775808 ≤ c ∧ c ≤ 9223372036854775807) ∧ (-9223372036854775808 ≤ d ∧ d ≤ 9223372036854775807) ∧ (-9223372036854775808 ≤ e ∧ e ≤ 9223372036854775807) ∧ (-9223372036854775808 ≤ f ∧ f ≤ 9223372036854775807) := by
  match zs, h with
  | [a, b, c, d, e, f], _ => exact ⟨a, b, c, d, e, f, rfl, hb a (by simp), hb b (by simp), hb c (by simp), hb d (by simp), hb e (by simp), hb f (by simp)⟩
end Go.Proofs.Ytgopaajmbifbaaa
namespace Go.Proofs.Ytgopaajmbifbaaa
open Go.RowKit
set_option linter.unusedVariables false
set_option linter.unusedSimpArgs false
set_option maxRecDepth 100000
set_option maxHeartbeats 2000000 in
theorem owns17_many (a : Option Addr) (n c : Nat) (x y : Int) (w : World) (h : (40 : Int) < (n : Int) ∨ (n : Int) ≤ 40 ∧ 6 < x ∧ x ≤ 256 ∨ (n : Int) ≤ 40 ∧ x ≤ 6 ∧ 6 < y ∧ y ≤ 256 ∨ (n : Int) ≤ 40 ∧ 256 < x ∧ 6 < y ∧ y ≤ 256) :
    Calls Try.prog 4 #[.slice a n c, .int .i64 x, .int .i64 y] w fun e w' => e = .returned (.bool true) ∧ Below w.heap.size w w' := by
  rcases h with h | ⟨h, h1, h2⟩ | ⟨h, h1, h2, h3⟩ | ⟨h, h1, h2, h3⟩
  all_goals
    go_enter Try.func4, Try.ntmps4
    go_wp2_with (first
      | (go_at_call 11; (with_reducible refine (awake17_any _).mono ?_); rintro e W1 ⟨rfl, k1⟩; have Hw1 := k1; clear k1))
    go_ret
    exact ⟨rfl, Hw1⟩
set_option maxHeartbeats 2000000 in
theorem owns17_noa (a : Option Addr) (n c : Nat) (x y : Int) (w : World) (hn : (n : Int) ≤ 40) (hq : (x < 1 ∧ y ≤ 6) ∨ (x < 1 ∧ 256 < y) ∨ (256 < x ∧ y ≤ 6) ∨ (256 < x ∧ 256 < y) ∨ (1 ≤ x ∧ x ≤ 6 ∧ y < 1) ∨ (1 ≤ x ∧ x ≤ 6 ∧ 256 < y)) (H1 : Hid (∀ W, Below w.heap.size w W → Calls Try.prog 18 #[.slice a n c, .int .i64 x, .int .i64 y] W fun e w' => e = .returned (.tuple #[.slice none 0 0, .int .i64 1]) ∧ Below W.heap.size W w'))  :
    Calls Try.prog 4 #[.slice a n c, .int .i64 x, .int .i64 y] w fun e w' => e = .returned (.bool true) ∧ Below w.heap.size w w' := by
  rcases hq with ⟨h1, h2⟩ | ⟨h1, h2⟩ | ⟨h1, h2⟩ | ⟨h1, h2⟩ | ⟨h1, h2, h3⟩ | ⟨h1, h2, h3⟩
  all_goals
    go_enter Try.func4, Try.ntmps4
    go_wp2_with (first
      | (go_at_call 18; (with_reducible refine (H1.out _ (bq_refl _)).mono ?_); rintro e W1 ⟨rfl, k1⟩; have Hw1 := k1; clear k1)
      | (go_at_call 11; (with_reducible refine (awake17_any _).mono ?_); rintro e W2 ⟨rfl, k2⟩; have Hw2 := bq_trans Hw1 k2; clear k2 Hw1))
    go_ret
    exact ⟨rfl, Hw2⟩
set_option maxHeartbeats 2000000 in
theorem owns17_nob (a : Option Addr) (n c : Nat) (x y : Int) (w : World) (hn : (n : Int) ≤ 40) (hq : 1 ≤ x ∧ x ≤ 6 ∧ 1 ≤ y ∧ y ≤ 6) (H1 : Hid (∀ W, Below w.heap.size w W → Calls Try.prog 18 #[.slice a n c, .int .i64 x, .int .i64 y] W fun e w' => e = .returned (.tuple #[.slice none 0 0, .int .i64 1]) ∧ Below W.heap.size W w')) (H2 : Hid (∀ W, Below w.heap.size w W → Calls Try.prog 19 #[.slice a n c] W fun e w' => e = .returned (.bool false) ∧ Below W.heap.size W w')) :
    Calls Try.prog 4 #[.slice a n c, .int .i64 x, .int .i64 y] w fun e w' => e = .returned (.bool true) ∧ Below w.heap.size w w' := by
  obtain ⟨h1, h2, h3, h4⟩ := hq
  all_goals
    go_enter Try.func4, Try.ntmps4
    go_wp2_with (first
      | (go_at_call 18; (with_reducible refine (H1.out _ (bq_refl _)).mono ?_); rintro e W1 ⟨rfl, k1⟩; have Hw1 := k1; clear k1)
      | (go_at_call 19; (with_reducible refine (H2.out _ Hw1).mono ?_); rintro e W2 ⟨rfl, k2⟩; have Hw2 := bq_trans Hw1 k2; clear k2 Hw1)
      | (go_at_call 11; (with_reducible refine (awake17_any _).mono ?_); rintro e W3 ⟨rfl, k3⟩; have Hw3 := bq_trans Hw2 k3; clear k3 Hw2))
    go_ret
    exact ⟨rfl, Hw3⟩
set_option maxHeartbeats 4000000 in
theorem owns17_main (L : List Sg) (v : Value) (X Y N : Nat) (w : World) (hL : Sgs w v L) (hl : L.length ≤ 40) (hr : allR L = true) (hx : 1 ≤ X ∧ X ≤ 6) (hy : 1 ≤ Y ∧ Y ≤ 6) (hN : N = 4 * X * (4 * Y)) :
    Calls Try.prog 4 #[v, .int .i64 (X : Int), .int .i64 (Y : Int)] w fun e w' => e = .returned (.bool true) ∧ Below w.heap.size w w' := by
  have H1 : Hid (∀ W, Below w.heap.size w W → Calls Try.prog 18 #[v, .int .i64 (X : Int), .int .i64 (Y : Int)] W fun e w' => (∃ b h, e = .returned (.tuple #[.slice (some ⟨b, 0, none⟩) N N, .int .i64 0]) ∧ Blk w' b (rowF N h) 3 ∧ (∀ k : Nat, k < 4 * Y → ∀ i : Nat, i < 4 * X → h (4 * X * k + i) = (ownV L (16 * (i : Int) + 7) (16 * (k : Int) + 7) : Int))) ∧ Below W.heap.size W w') := Lib.hid fun W hW => by
    subst hN
    exact owners_any L v X Y W (hL.keep hW) hr (by omega) (by omega) (by omega)
  have H2 : Hid (∀ W, Below w.heap.size w W → Calls Try.prog 19 #[v] W fun e w' => e = .returned (.bool true) ∧ Below W.heap.size W w') := Lib.hid fun W hW => by
    have h1 := lawright17_any L v W (hL.keep hW)
    rw [hr] at h1
    exact h1
  have HRF : Hid (∀ W, Below w.heap.size w W → Calls Try.prog 16 #[v] W fun e w' => (∃ v', e = .returned v' ∧ Sgs w' v' L) ∧ Below W.heap.size W w') := Lib.hid fun W hW => refs17_any L v W (hL.keep hW) (by omega)
  have HRO : Hid (∀ (v' : Value) (W : World) (i k : Nat), Sgs W v' L → i < 4 * X → k < 4 * Y → Calls Try.prog 20 #[v', .int .i64 (16 * (i : Int) + 7), .int .i64 (16 * (k : Int) + 7)] W fun e w' => e = .returned (.int .i64 (ownV L (16 * (i : Int) + 7) (16 * (k : Int) + 7) : Int)) ∧ Below W.heap.size W w') := Lib.hid fun v' W i k hW hi hk => rowner_any L v' _ _ W hW hr (smpB_of (by omega) (by omega) (by omega)) (smpB_of (by omega) (by omega) (by omega))
  have hN6 : N ≤ 24 * 24 := by rw [hN]; exact Nat.mul_le_mul (by omega) (by omega)
  have ew : wrap64 (16 * (X : Int) * (Y : Int)) = (N : Int) := by
    rw [show 16 * (X : Int) * (Y : Int) = (N : Int) by rw [hN]; push_cast; grind]
    exact w64 _ (by omega)
  have en : ((N : Int) != (N : Int)) = false := by simp
  obtain ⟨la, lc, lb, lo, rfl, llen, lget⟩ := hL.at
  have HG := Lib.hid lget
  clear hL lget
  obtain ⟨n, hn⟩ : ∃ n, n = L.length := ⟨_, rfl⟩
  rw [← hn] at llen
  rw [← hn]
  have HN := Lib.hid hn
  have hn9 : (n : Int) ≤ 9223372036854775807 := by omega
  rw [← hn] at hl
  rw [← HN.out] at H1 H2 HRF
  have HNN := Lib.hid hN
  have hn3 : (n : Int) ≤ 40 := by omega
  have hN9 : (N : Int) ≤ 576 := by omega
  have x0 : 1 ≤ (X : Int) := by omega
  have x1 : (X : Int) ≤ 6 := by omega
  have y0 : 1 ≤ (Y : Int) := by omega
  have y1 : (Y : Int) ≤ 6 := by omega
  clear hn llen hl HG hN hx hy hr hN6
  go_enter Try.func4, Try.ntmps4
  go_wp2_with (first
    | (go_at_call 18; (with_reducible refine (H1.out _ (bq_refl _)).mono ?_); rintro e W1 ⟨⟨b2, h2, rfl, B2, hd2⟩, k1⟩; have Hw1 := k1; have HD2 := Lib.hid hd2; clear hd2; clear k1)
    | (go_at_call 19; (with_reducible refine (H2.out _ Hw1).mono ?_); rintro e W2 ⟨rfl, k2⟩; have Bo_2 := B2.keep k2; have Hw2 := bq_trans Hw1 k2; clear k2 B2 Hw1)
    | (go_at_call 16; (with_reducible refine (HRF.out _ Hw2).mono ?_); rintro e W3 ⟨⟨v1, rfl, hS1⟩, k3⟩; have Bo_3 := Bo_2.keep k3; have Hw3 := bq_trans Hw2 k3; have HS1 := Lib.hid hS1; clear hS1; clear k3 Bo_2 Hw2))
  have HB0 := Lib.hid Hw3
  have HBO := Lib.hid Bo_3
  clear Hw3 Bo_3 ew en
  go_loopw [10] (fun t wr => ∃ k : Nat, k ≤ 4 * Y ∧ t = .int .i64 (k : Int) ∧ Below W3.heap.size W3 wr) (fun t _ => 4 * Y - (intOf t).toNat)
  case atStart => exact ⟨0, by omega, rfl, bq_refl _⟩
  case round =>
    obtain ⟨k, hk, rfl, hbel⟩ := hrel
    have HB := Lib.hid hbel
    clear hbel
    by_cases hlt : k < 4 * Y
    · have k1 : (k : Int) < 4 * (Y : Int) := by omega
      obtain ⟨A, hA⟩ : ∃ A, A = 4 * X * k := ⟨_, rfl⟩
      have hAN : A + 4 * X ≤ N := by
        rw [hA, HNN.out, ← Nat.mul_succ]
        exact Nat.mul_le_mul_left _ hlt
      have HEA : Hid (IntKind.i64.wrap (4 * (X : Int) * (k : Int)) = (A : Int)) := Lib.hid (by
        rw [show 4 * (X : Int) * (k : Int) = (A : Int) by rw [hA]; push_cast; rfl]
        exact wI _ (by omega))
      have HEX : Hid (IntKind.i64.wrap (4 * (X : Int)) = 4 * (X : Int)) := Lib.hid (wI _ (by omega))
      have HI3 : Hid (IntKind.i64.wrap (16 * (k : Int)) = 16 * (k : Int)) := Lib.hid (wI _ (by omega))
      have HI4 : Hid (IntKind.i64.wrap (16 * (k : Int) + 7) = 16 * (k : Int) + 7) := Lib.hid (wI _ (by omega))
      have HDK : Hid (∀ i : Nat, i < 4 * X → h2 (A + i) = (ownV L (16 * (i : Int) + 7) (16 * (k : Int) + 7) : Int)) := Lib.hid fun i hi => by rw [hA]; exact HD2.out k hlt i hi
      clear hA
      go_upto_region 13 with (fail)
      go_loopw [11] (fun t wr => ∃ i : Nat, i ≤ 4 * X ∧ t = .int .i64 (i : Int) ∧ Below W3.heap.size W3 wr) (fun t _ => 4 * X - (intOf t).toNat)
      case atStart => exact ⟨0, by omega, rfl, HB.out⟩
      case round =>
        obtain ⟨i, hi, rfl, hbel⟩ := hrel
        have HB2 := Lib.hid hbel
        clear hbel
        by_cases hlt2 : i < 4 * X
        · have i1 : (i : Int) < 4 * (X : Int) := by omega
          have HI1 : Hid (IntKind.i64.wrap (16 * (i : Int)) = 16 * (i : Int)) := Lib.hid (wI _ (by omega))
          have HI2 : Hid (IntKind.i64.wrap (16 * (i : Int) + 7) = 16 * (i : Int) + 7) := Lib.hid (wI _ (by omega))
          obtain ⟨B, hB⟩ : ∃ B, B = A + i := ⟨_, rfl⟩
          have HEB : Hid (IntKind.i64.wrap ((A : Int) + (i : Int)) = (B : Int)) := Lib.hid (by rw [show (A : Int) + (i : Int) = (B : Int) by omega]; exact wI _ (by omega))
          have HPP : Hid (0 ≤ (B : Int) ∧ (B : Int) < (N : Int)) := Lib.hid (by omega)
          have HRK : Hid (∀ W, Below W3.heap.size W3 W → Calls Try.prog 20 #[v1, .int .i64 (16 * (i : Int) + 7), .int .i64 (16 * (k : Int) + 7)] W fun e w' => e = .returned (.int .i64 (ownV L (16 * (i : Int) + 7) (16 * (k : Int) + 7) : Int)) ∧ Below W.heap.size W w') := Lib.hid fun W hW => HRO.out v1 W i k (HS1.out.keep hW) hlt2 hlt
          have HCC : Hid (∀ W, Below W3.heap.size W3 W → W.cell? ⟨b2, B, none⟩ = some (.int .i64 (ownV L (16 * (i : Int) + 7) (16 * (k : Int) + 7) : Int))) := Lib.hid fun W hW => by
            rw [← HDK.out i hlt2, ← hB, (HBO.out.keep hW).cell, rowF_at _ _ _ (by omega)]
          clear hB
          generalize (ownV L (16 * (i : Int) + 7) (16 * (k : Int) + 7) : Int) = Z at *
          go_upto_region 15 with (fail)
          refine Det.wp_region_det (S := fun w' => Below wr.heap.size wr w') (by kernel_rfl) (by kernel_rfl) (bq_drew (bq_refl _)) ?_
          refine Det.det_take (v := ?_) (by rfl) ?_ ?_
          rotate_left
          · (intro w hSw; go_simp; try with_reducible rfl)
          try simp only [Act.put, List.setIfInBounds_toArray, List.set_cons_zero, List.set_cons_succ]
          refine Det.det_take (v := ?_) (by rfl) ?_ ?_
          rotate_left
          · (intro w hSw; go_simp; try with_reducible rfl)
          try simp only [Act.put, List.setIfInBounds_toArray, List.set_cons_zero, List.set_cons_succ]
          refine Det.det_take (v := ?_) (by rfl) ?_ ?_
          rotate_left
          · (intro w hSw; have ex := HEX.out; go_simp; try with_reducible rfl)
          try simp only [Act.put, List.setIfInBounds_toArray, List.set_cons_zero, List.set_cons_succ]
          refine Det.det_take (v := ?_) (by rfl) ?_ ?_
          rotate_left
          · (intro w hSw; go_simp; try with_reducible rfl)
          try simp only [Act.put, List.setIfInBounds_toArray, List.set_cons_zero, List.set_cons_succ]
          refine Det.det_take (v := ?_) (by rfl) ?_ ?_
          rotate_left
          · (intro w hSw; have ea := HEA.out; go_simp; try with_reducible rfl)
          try simp only [Act.put, List.setIfInBounds_toArray, List.set_cons_zero, List.set_cons_succ]
          refine Det.det_take (v := ?_) (by rfl) ?_ ?_
          rotate_left
          · (intro w hSw; go_simp; try with_reducible rfl)
          try simp only [Act.put, List.setIfInBounds_toArray, List.set_cons_zero, List.set_cons_succ]
          refine Det.det_take (v := ?_) (by rfl) ?_ ?_
          rotate_left
          · (intro w hSw; have ea := HEB.out; go_simp; try with_reducible rfl)
          try simp only [Act.put, List.setIfInBounds_toArray, List.set_cons_zero, List.set_cons_succ]
          refine Det.det_take (v := ?_) (by rfl) ?_ ?_
          rotate_left
          · (intro w hSw; have p0 := HPP.out.1; have p1 := HPP.out.2; go_simp; try with_reducible rfl)
          try simp only [Act.put, List.setIfInBounds_toArray, List.set_cons_zero, List.set_cons_succ]
          refine Det.det_take (v := ?_) (by rfl) ?_ ?_
          rotate_left
          · (intro w hSw; have cc : w.cell? ⟨b2, B, none⟩ = some (.int .i64 Z) := HCC.out w (bq_trans HB2.out hSw); go_simp; try with_reducible rfl)
          try simp only [Act.put, List.setIfInBounds_toArray, List.set_cons_zero, List.set_cons_succ]
          refine Det.det_take (v := ?_) (by rfl) ?_ ?_
          rotate_left
          · (intro w hSw; go_simp; try with_reducible rfl)
          try simp only [Act.put, List.setIfInBounds_toArray, List.set_cons_zero, List.set_cons_succ]
          refine Det.det_take (v := ?_) (by rfl) ?_ ?_
          rotate_left
          · (intro w hSw; go_simp; try with_reducible rfl)
          try simp only [Act.put, List.setIfInBounds_toArray, List.set_cons_zero, List.set_cons_succ]
          refine Det.det_take (v := ?_) (by rfl) ?_ ?_
          rotate_left
          · (intro w hSw; have ea := HI1.out; go_simp; try with_reducible rfl)
          try simp only [Act.put, List.setIfInBounds_toArray, List.set_cons_zero, List.set_cons_succ]
          refine Det.det_take (v := ?_) (by rfl) ?_ ?_
          rotate_left
          · (intro w hSw; have ea := HI2.out; go_simp; try with_reducible rfl)
          try simp only [Act.put, List.setIfInBounds_toArray, List.set_cons_zero, List.set_cons_succ]
          refine Det.det_take (v := ?_) (by rfl) ?_ ?_
          rotate_left
          · (intro w hSw; go_simp; try with_reducible rfl)
          try simp only [Act.put, List.setIfInBounds_toArray, List.set_cons_zero, List.set_cons_succ]
          refine Det.det_take (v := ?_) (by rfl) ?_ ?_
          rotate_left
          · (intro w hSw; have ea := HI3.out; go_simp; try with_reducible rfl)
          try simp only [Act.put, List.setIfInBounds_toArray, List.set_cons_zero, List.set_cons_succ]
          refine Det.det_take (v := ?_) (by rfl) ?_ ?_
          rotate_left
          · (intro w hSw; have ea := HI4.out; go_simp; try with_reducible rfl)
          try simp only [Act.put, List.setIfInBounds_toArray, List.set_cons_zero, List.set_cons_succ]
          refine Det.det_call (f := 20) (args := #[v1, .int .i64 (16 * (i : Int) + 7), .int .i64 (16 * (k : Int) + 7)]) (v := .int .i64 Z) (by rfl) ?_ (fun w hS => (HRK.out w (bq_trans HB2.out hS)).mono fun e w' ⟨h1, h2⟩ => ⟨h1, bq_trans hS h2⟩) ?_
          · (intro w hSw; go_simp)
          try simp only [Act.put, List.setIfInBounds_toArray, List.set_cons_zero, List.set_cons_succ]
          refine Det.det_take (v := ?_) (by rfl) ?_ ?_
          rotate_left
          · (intro w hSw; have en : (Z != Z) = false := (by simp); go_simp; try with_reducible rfl)
          try simp only [Act.put, List.setIfInBounds_toArray, List.set_cons_zero, List.set_cons_succ]
          refine Det.det_nil (fun W21 k21 => ?_)
          have Hw21 := k21
          clear k21 
          go_wp2_with fail
          go_roundw
          case rel => exact ⟨i + 1, by omega, by go_num, bq_trans HB2.out Hw21⟩
          case measure => simp [intOf]; omega
        · have i1 : 4 * (X : Int) ≤ (i : Int) := by omega
          go_wp2_with fail
          go_roundw
          case rel => exact ⟨k + 1, by omega, by go_num, HB2.out⟩
          case measure => simp [intOf]; omega
    · have k1 : 4 * (Y : Int) ≤ (k : Int) := by omega
      go_wp2_with (first
        | (go_at_call 11; (with_reducible refine (awake17_any _).mono ?_); rintro e W41 ⟨rfl, k41⟩; have Hw41 := k41; clear k41))
      go_ret
      exact ⟨rfl, bq_trans (bq_trans HB0.out HB.out) Hw41⟩
theorem owns17_walk (L : List Sg) (v : Value) (x y : Int) (w : World) (hL : Sgs w v L) :
    Calls Try.prog 4 #[v, .int .i64 x, .int .i64 y] w fun e w' => e = .returned (.bool true) ∧ Below w.heap.size w w' := by
  by_cases hs : (frmB x y && allR L) = false
  · have H1 : Hid (∀ W, Below w.heap.size w W → Calls Try.prog 18 #[v, .int .i64 x, .int .i64 y] W fun e w' => e = .returned (.tuple #[.slice none 0 0, .int .i64 1]) ∧ Below W.heap.size W w') := Lib.hid fun W hW => owners_refused L v x y W (hL.keep hW) hs
    have H2 : Hid (∀ W, Below w.heap.size w W → Calls Try.prog 19 #[v] W fun e w' => e = .returned (.bool (allR L)) ∧ Below W.heap.size W w') := Lib.hid fun W hW => lawright17_any L v W (hL.keep hW)
    obtain ⟨la, lc, lb, lo, rfl, llen, lget⟩ := hL.at
    by_cases hm : (40 : Int) < (L.length : Int) ∨ (L.length : Int) ≤ 40 ∧ 6 < x ∧ x ≤ 256 ∨ (L.length : Int) ≤ 40 ∧ x ≤ 6 ∧ 6 < y ∧ y ≤ 256 ∨ (L.length : Int) ≤ 40 ∧ 256 < x ∧ 6 < y ∧ y ≤ 256
    · exact owns17_many la L.length lc x y w hm
    · by_cases hf : 1 ≤ x ∧ x ≤ 6 ∧ 1 ≤ y ∧ y ≤ 6
      · have hrr : allR L = false := by
          rw [frmB_of (by omega)] at hs
          simpa using hs
        rw [hrr] at H2
        exact owns17_nob la L.length lc x y w (by omega) hf H1 H2
      · exact owns17_noa la L.length lc x y w (by omega) (by omega) H1
  · have hb : frmB x y = true ∧ allR L = true := by simpa using hs
    obtain ⟨b1, b2, b3, b4⟩ := frmB_bd hb.1
    obtain ⟨X, rfl⟩ := Int.eq_ofNat_of_zero_le (show 0 ≤ x by omega)
    obtain ⟨Y, rfl⟩ := Int.eq_ofNat_of_zero_le (show 0 ≤ y by omega)
    by_cases hm : L.length ≤ 40 ∧ X ≤ 6 ∧ Y ≤ 6
    · exact owns17_main L v X Y _ w hL hm.1 hb.2 ⟨by omega, hm.2.1⟩ ⟨by omega, hm.2.2⟩ rfl
    · obtain ⟨la, lc, lb, lo, rfl, llen, lget⟩ := hL.at
      exact owns17_many la L.length lc _ _ w (by omega)
end Go.Proofs.Ytgopaajmbifbaaa
namespace Go.Proofs.Ytgopaajmbifbaaa
open Go.RowKit
set_option linter.unusedVariables false
set_option linter.unusedSimpArgs false
set_option maxRecDepth 100000
def rectL (P Q R U S : Int) : List Sg := [⟨16 * P, 16 * Q, 16 * P, 16 * Q + 16 * U, 1 + S, 0⟩, ⟨16 * P, 16 * Q + 16 * U, 16 * P + 16 * R, 16 * Q + 16 * U, 1 + S, 0⟩, ⟨16 * P + 16 * R, 16 * Q + 16 * U, 16 * P + 16 * R, 16 * Q, 1 + S, 0⟩, ⟨16 * P + 16 * R, 16 * Q, 16 * P, 16 * Q, 1 + S, 0⟩]
theorem wnd1_vert (x0 y0 y1 l r st x y : Int) (hr : rgtS ⟨x0, y0, x0, y1, l, r⟩ = true) (h : y0 ≤ y1) :
    wnd1 ⟨x0, y0, x0, y1, l, r⟩ st x y = if y0 < y ∧ y < y1 ∧ x0 ≤ x then (if l = st then 1 else 0) + (if r = st then -1 else 0) else 0 := by
  have hd : dnS ⟨x0, y0, x0, y1, l, r⟩ = ⟨x0, y0, x0, y1, l, r⟩ := by unfold dnS; rw [if_neg (by simp only; omega)]
  have hcl : (crsS ⟨x0, y0, x0, y1, l, r⟩ y && lftS ⟨x0, y0, x0, y1, l, r⟩ x y) = decide (y0 < y ∧ y < y1 ∧ x0 ≤ x) := by
    rw [Bool.eq_iff_iff]
    simp only [crsS, lftS, Bool.and_eq_true, decide_eq_true_eq]
    rw [Int.sub_self, Int.mul_zero]
    constructor
    · intro ⟨⟨h1, h2⟩, h3⟩
      rcases (show x < x0 ∨ x0 ≤ x by omega) with h4 | h4
      · exact absurd (Int.mul_neg_of_neg_of_pos (show x - x0 < 0 by omega) (show 0 < y1 - y0 by omega)) (by omega)
      · exact ⟨h1, h2, h4⟩
    · intro ⟨h1, h2, h3⟩
      exact ⟨⟨h1, h2⟩, Int.mul_nonneg (by omega) (by omega)⟩
  rw [wnd1, if_pos hr, hd, wndS, hcl]
  by_cases hc : y0 < y ∧ y < y1 ∧ x0 ≤ x
  · rw [decide_eq_true hc, if_pos rfl, if_pos hc]
    rfl
  · rw [decide_eq_false hc, if_neg (show ¬ (false = true) by decide), if_neg hc]
theorem wnd1_flat (x0 x1 y0 l r st x y : Int) : wnd1 ⟨x0, y0, x1, y0, l, r⟩ st x y = 0 := by
  have hd : dnS ⟨x0, y0, x1, y0, l, r⟩ = ⟨x0, y0, x1, y0, l, r⟩ := by unfold dnS; rw [if_neg (by simp only; omega)]
  rw [wnd1, hd, wndS, crs_flat (by simp only; omega)]
  simp
theorem rgtS_of {ax ay bx by1 l r : Int} (h1 : -16777216 ≤ ax ∧ ax ≤ 16777216 ∧ ax % 2 = 0) (h2 : -16777216 ≤ ay ∧ ay ≤ 16777216 ∧ ay % 2 = 0) (h3 : -16777216 ≤ bx ∧ bx ≤ 16777216 ∧ bx % 2 = 0) (h4 : -16777216 ≤ by1 ∧ by1 ≤ 16777216 ∧ by1 % 2 = 0) (h5 : 0 ≤ l ∧ l ≤ 255) (h6 : 0 ≤ r ∧ r ≤ 255) :
    rgtS ⟨ax, ay, bx, by1, l, r⟩ = true := by
  have e1 := evP_of (evB_of h1.1 h1.2.1 h1.2.2) (evB_of h2.1 h2.2.1 h2.2.2)
  have e2 := evP_of (evB_of h3.1 h3.2.1 h3.2.2) (evB_of h4.1 h4.2.1 h4.2.2)
  have e3 : styB l = true := by simp [styB]; exact h5
  have e4 : styB r = true := by simp [styB]; exact h6
  simp only [rgtS, e1, e2, e3, e4]
  rfl
section
variable {P Q R U S : Int} (hP : 0 ≤ P ∧ P ≤ 19) (hQ : 0 ≤ Q ∧ Q ≤ 19) (hR : 0 ≤ R ∧ R ≤ 19) (hU : 0 ≤ U ∧ U ≤ 19) (hS : 0 ≤ S ∧ S ≤ 254)
include hP hQ hR hU hS
theorem rect_right : allR (rectL P Q R U S) = true := by
  refine List.all_eq_true.2 fun s hs => ?_
  simp only [rectL, List.mem_cons, List.not_mem_nil, or_false] at hs
  rcases hs with rfl | rfl | rfl | rfl <;> exact rgtS_of (by omega) (by omega) (by omega) (by omega) (by omega) (by omega)
theorem rect_wnd (st : Int) (i k : Nat) : wnd (rectL P Q R U S) st (16 * (i : Int) + 7) (16 * (k : Int) + 7) = if (P ≤ (i : Int) ∧ (i : Int) < P + R ∧ Q ≤ (k : Int) ∧ (k : Int) < Q + U) then (if 1 + S = st then 1 else 0) + (if 0 = st then -1 else 0) else 0 := by
  have e3 := wnd1_trn ⟨16 * P + 16 * R, 16 * Q + 16 * U, 16 * P + 16 * R, 16 * Q, 1 + S, 0⟩ st (16 * (i : Int) + 7) (16 * (k : Int) + 7)
  have e4 := wnd1_vert (16 * P + 16 * R) (16 * Q) (16 * Q + 16 * U) 0 (1 + S) st (16 * (i : Int) + 7) (16 * (k : Int) + 7) (rgtS_of (by omega) (by omega) (by omega) (by omega) (by omega) (by omega)) (by omega)
  have e1 := wnd1_vert (16 * P) (16 * Q) (16 * Q + 16 * U) (1 + S) 0 st (16 * (i : Int) + 7) (16 * (k : Int) + 7) (rgtS_of (by omega) (by omega) (by omega) (by omega) (by omega) (by omega)) (by omega)
  simp only [trnS] at e3
  simp only [rectL, wnd, wnd1_flat]
  rw [← e3, e4, e1]
  repeat' split
  all_goals omega
theorem rect_own (i k : Nat) : (ownV (rectL P Q R U S) (16 * (i : Int) + 7) (16 * (k : Int) + 7) : Int) = if (P ≤ (i : Int) ∧ (i : Int) < P + R ∧ Q ≤ (k : Int) ∧ (k : Int) < Q + U) then 1 + S else 0 := by
  by_cases h : (P ≤ (i : Int) ∧ (i : Int) < P + R ∧ Q ≤ (k : Int) ∧ (k : Int) < Q + U)
  · rw [if_pos h]
    obtain ⟨m, hm⟩ := Int.eq_ofNat_of_zero_le (show 0 ≤ 1 + S by omega)
    rw [hm]
    congr 1
    refine topN_is _ m 256 (by omega) (Or.inr ?_) fun s h1 h2 => ?_
    · rw [rect_wnd hP hQ hR hU hS, if_pos h, if_pos hm, if_neg (by omega)]
      omega
    · rw [rect_wnd hP hQ hR hU hS, if_pos h, if_neg (by omega)]
      split <;> omega
  · rw [if_neg h]
    have : ownV (rectL P Q R U S) (16 * (i : Int) + 7) (16 * (k : Int) + 7) = 0 := topN_is _ 0 256 (by omega) (Or.inl rfl) fun s h1 h2 => by
      rw [rect_wnd hP hQ hR hU hS, if_neg h]
      omega
    rw [this]
    rfl
end
set_option maxHeartbeats 8000000 in
theorem squares17_core (a0 a1 a2 a3 a4 P Q R U S : Int) (w : World) (h0 : a0.tmod 20 = P) (h1 : a1.tmod 20 = Q) (h2 : a2.tmod 20 = R) (h3 : a3.tmod 20 = U) (h4 : a4.tmod 255 = S) (p0 : 0 ≤ P) (p1 : P ≤ 19) (q0 : 0 ≤ Q) (q1 : Q ≤ 19) (r0 : 0 ≤ R) (r1 : R ≤ 19) (u0 : 0 ≤ U) (u1 : U ≤ 19) (s0 : 0 ≤ S) (s1 : S ≤ 254) :
    Calls Try.prog 9 #[.int .u8 a0, .int .u8 a1, .int .u8 a2, .int .u8 a3, .int .u8 a4] w fun e w' => e = .returned (.bool true) ∧ Below w.heap.size w w' := by
  have HB5 : Hid (Below w.heap.size w (((((w.alloc (.cells #[.int .i64 (16 * P), .int .i64 (16 * Q)] 25)).alloc (.cells #[.int .i64 (16 * P), .int .i64 (16 * Q + 16 * U)] 25)).alloc (.cells #[.int .i64 (16 * P + 16 * R), .int .i64 (16 * Q + 16 * U)] 25)).alloc (.cells #[.int .i64 (16 * P + 16 * R), .int .i64 (16 * Q)] 25)).alloc (.cells #[.int .i64 (16 * P), .int .i64 (16 * Q), .int .i64 (16 * P), .int .i64 (16 * Q + 16 * U), .int .i64 (1 + S), .int .i64 0, .int .i64 (16 * P), .int .i64 (16 * Q + 16 * U), .int .i64 (16 * P + 16 * R), .int .i64 (16 * Q + 16 * U), .int .i64 (1 + S), .int .i64 0, .int .i64 (16 * P + 16 * R), .int .i64 (16 * Q + 16 * U), .int .i64 (16 * P + 16 * R), .int .i64 (16 * Q), .int .i64 (1 + S), .int .i64 0, .int .i64 (16 * P + 16 * R), .int .i64 (16 * Q), .int .i64 (16 * P), .int .i64 (16 * Q), .int .i64 (1 + S), .int .i64 0] 27))) := Lib.hid (bq_alloc (bq_alloc (bq_alloc (bq_alloc (bq_alloc (bq_refl _) _) _) _) _) _)
  have HOW : Hid (Calls Try.prog 18 #[.slice (some ⟨(w.heap.size + 1 + 1 + 1 + 1), 0, none⟩) 4 4, .int .i64 8, .int .i64 8] (((((w.alloc (.cells #[.int .i64 (16 * P), .int .i64 (16 * Q)] 25)).alloc (.cells #[.int .i64 (16 * P), .int .i64 (16 * Q + 16 * U)] 25)).alloc (.cells #[.int .i64 (16 * P + 16 * R), .int .i64 (16 * Q + 16 * U)] 25)).alloc (.cells #[.int .i64 (16 * P + 16 * R), .int .i64 (16 * Q)] 25)).alloc (.cells #[.int .i64 (16 * P), .int .i64 (16 * Q), .int .i64 (16 * P), .int .i64 (16 * Q + 16 * U), .int .i64 (1 + S), .int .i64 0, .int .i64 (16 * P), .int .i64 (16 * Q + 16 * U), .int .i64 (16 * P + 16 * R), .int .i64 (16 * Q + 16 * U), .int .i64 (1 + S), .int .i64 0, .int .i64 (16 * P + 16 * R), .int .i64 (16 * Q + 16 * U), .int .i64 (16 * P + 16 * R), .int .i64 (16 * Q), .int .i64 (1 + S), .int .i64 0, .int .i64 (16 * P + 16 * R), .int .i64 (16 * Q), .int .i64 (16 * P), .int .i64 (16 * Q), .int .i64 (1 + S), .int .i64 0] 27)) fun e w' => (∃ b h, e = .returned (.tuple #[.slice (some ⟨b, 0, none⟩) 1024 1024, .int .i64 0]) ∧ Blk w' b (rowF 1024 h) 3 ∧ (∀ k : Nat, k < 4 * 8 → ∀ i : Nat, i < 4 * 8 → h (4 * 8 * k + i) = (ownV (rectL P Q R U S) (16 * (i : Int) + 7) (16 * (k : Int) + 7) : Int))) ∧ Below (((((w.alloc (.cells #[.int .i64 (16 * P), .int .i64 (16 * Q)] 25)).alloc (.cells #[.int .i64 (16 * P), .int .i64 (16 * Q + 16 * U)] 25)).alloc (.cells #[.int .i64 (16 * P + 16 * R), .int .i64 (16 * Q + 16 * U)] 25)).alloc (.cells #[.int .i64 (16 * P + 16 * R), .int .i64 (16 * Q)] 25)).alloc (.cells #[.int .i64 (16 * P), .int .i64 (16 * Q), .int .i64 (16 * P), .int .i64 (16 * Q + 16 * U), .int .i64 (1 + S), .int .i64 0, .int .i64 (16 * P), .int .i64 (16 * Q + 16 * U), .int .i64 (16 * P + 16 * R), .int .i64 (16 * Q + 16 * U), .int .i64 (1 + S), .int .i64 0, .int .i64 (16 * P + 16 * R), .int .i64 (16 * Q + 16 * U), .int .i64 (16 * P + 16 * R), .int .i64 (16 * Q), .int .i64 (1 + S), .int .i64 0, .int .i64 (16 * P + 16 * R), .int .i64 (16 * Q), .int .i64 (16 * P), .int .i64 (16 * Q), .int .i64 (1 + S), .int .i64 0] 27)).heap.size (((((w.alloc (.cells #[.int .i64 (16 * P), .int .i64 (16 * Q)] 25)).alloc (.cells #[.int .i64 (16 * P), .int .i64 (16 * Q + 16 * U)] 25)).alloc (.cells #[.int .i64 (16 * P + 16 * R), .int .i64 (16 * Q + 16 * U)] 25)).alloc (.cells #[.int .i64 (16 * P + 16 * R), .int .i64 (16 * Q)] 25)).alloc (.cells #[.int .i64 (16 * P), .int .i64 (16 * Q), .int .i64 (16 * P), .int .i64 (16 * Q + 16 * U), .int .i64 (1 + S), .int .i64 0, .int .i64 (16 * P), .int .i64 (16 * Q + 16 * U), .int .i64 (16 * P + 16 * R), .int .i64 (16 * Q + 16 * U), .int .i64 (1 + S), .int .i64 0, .int .i64 (16 * P + 16 * R), .int .i64 (16 * Q + 16 * U), .int .i64 (16 * P + 16 * R), .int .i64 (16 * Q), .int .i64 (1 + S), .int .i64 0, .int .i64 (16 * P + 16 * R), .int .i64 (16 * Q), .int .i64 (16 * P), .int .i64 (16 * Q), .int .i64 (1 + S), .int .i64 0] 27)) w') := Lib.hid (by
    have hB := blk_new ((((w.alloc (.cells #[.int .i64 (16 * P), .int .i64 (16 * Q)] 25)).alloc (.cells #[.int .i64 (16 * P), .int .i64 (16 * Q + 16 * U)] 25)).alloc (.cells #[.int .i64 (16 * P + 16 * R), .int .i64 (16 * Q + 16 * U)] 25)).alloc (.cells #[.int .i64 (16 * P + 16 * R), .int .i64 (16 * Q)] 25)) #[.int .i64 (16 * P), .int .i64 (16 * Q), .int .i64 (16 * P), .int .i64 (16 * Q + 16 * U), .int .i64 (1 + S), .int .i64 0, .int .i64 (16 * P), .int .i64 (16 * Q + 16 * U), .int .i64 (16 * P + 16 * R), .int .i64 (16 * Q + 16 * U), .int .i64 (1 + S), .int .i64 0, .int .i64 (16 * P + 16 * R), .int .i64 (16 * Q + 16 * U), .int .i64 (16 * P + 16 * R), .int .i64 (16 * Q), .int .i64 (1 + S), .int .i64 0, .int .i64 (16 * P + 16 * R), .int .i64 (16 * Q), .int .i64 (16 * P), .int .i64 (16 * Q), .int .i64 (1 + S), .int .i64 0] 27
    simp only [World.size_alloc] at hB
    have e24 : ((rectL P Q R U S).map sgC).flatten.toArray = #[.int .i64 (16 * P), .int .i64 (16 * Q), .int .i64 (16 * P), .int .i64 (16 * Q + 16 * U), .int .i64 (1 + S), .int .i64 0, .int .i64 (16 * P), .int .i64 (16 * Q + 16 * U), .int .i64 (16 * P + 16 * R), .int .i64 (16 * Q + 16 * U), .int .i64 (1 + S), .int .i64 0, .int .i64 (16 * P + 16 * R), .int .i64 (16 * Q + 16 * U), .int .i64 (16 * P + 16 * R), .int .i64 (16 * Q), .int .i64 (1 + S), .int .i64 0, .int .i64 (16 * P + 16 * R), .int .i64 (16 * Q), .int .i64 (16 * P), .int .i64 (16 * Q), .int .i64 (1 + S), .int .i64 0] := rfl
    rw [← e24] at hB ⊢
    exact owners_any (rectL P Q R U S) _ 8 8 _ (Blk.sgs hB (by simp [rectL]) 4) (rect_right ⟨p0, p1⟩ ⟨q0, q1⟩ ⟨r0, r1⟩ ⟨u0, u1⟩ ⟨s0, s1⟩) (by simp [rectL]) ⟨by decide, by decide⟩ ⟨by decide, by decide⟩)
  have HRO : Hid (∀ i k : Nat, (ownV (rectL P Q R U S) (16 * (i : Int) + 7) (16 * (k : Int) + 7) : Int) = if (P ≤ (i : Int) ∧ (i : Int) < P + R ∧ Q ≤ (k : Int) ∧ (k : Int) < Q + U) then 1 + S else 0) := Lib.hid (rect_own ⟨p0, p1⟩ ⟨q0, q1⟩ ⟨r0, r1⟩ ⟨u0, u1⟩ ⟨s0, s1⟩)
  go_enter Try.func9, Try.ntmps9
  go_upto_region 6 with (go_big_may; first
    | (go_at_call 18; (with_reducible refine HOW.out.mono ?_); rintro e W6 ⟨⟨b2, h2, rfl, B2, hd2⟩, k6⟩; have HBX := Lib.hid (bq_trans HB5.out k6); have HD2 := Lib.hid hd2; clear hd2 k6 HB5))
  clear HOW
  go_wp2_with fail
  have HBO := Lib.hid B2
  clear B2
  go_loopw [92] (fun t wr => ∃ i : Nat, i ≤ 1024 ∧ t = .int .i64 (i : Int) ∧ Below W6.heap.size W6 wr) (fun t _ => 1024 - (intOf t).toNat)
  case atStart => exact ⟨0, by omega, rfl, bq_refl _⟩
  case round =>
    obtain ⟨i, hi, rfl, hbel⟩ := hrel
    have HB := Lib.hid hbel
    clear hbel
    by_cases hlt : i < 1024
    · have i1 : (i : Int) < 1024 := by omega
      obtain ⟨M, hM⟩ : ∃ M, M = i % 32 := ⟨_, rfl⟩
      obtain ⟨K, hK⟩ : ∃ K, K = i / 32 := ⟨_, rfl⟩
      have eM : (i : Int).tmod 32 = (M : Int) := by rw [Int.tmod_eq_emod_of_nonneg (by omega)]; omega
      have eK : (i : Int).tdiv 32 = (K : Int) := by rw [Int.tdiv_eq_ediv_of_nonneg (by omega)]; omega
      have m1 : (M : Int) < 32 := by omega
      have k1 : (K : Int) < 32 := by omega
      have HDK : Hid (h2 i = if (P ≤ (M : Int) ∧ (M : Int) < P + R ∧ Q ≤ (K : Int) ∧ (K : Int) < Q + U) then 1 + S else 0) := Lib.hid (by
        have g := HD2.out K (by omega) M (by omega)
        rw [show 4 * 8 * K + M = i by omega, HRO.out] at g
        exact g)
      clear hM hK HRO HD2
      by_cases c0 : P ≤ (M : Int)
      · by_cases c1 : (M : Int) < P + R
        · by_cases c2 : Q ≤ (K : Int)
          · by_cases c3 : (K : Int) < Q + U
            · have d0 : 16 * P ≤ 16 * (M : Int) := by omega
              have d1 : 16 * (M : Int) < 16 * P + 16 * R := by omega
              have d2 : 16 * Q ≤ 16 * (K : Int) := by omega
              have d3 : 16 * (K : Int) < 16 * Q + 16 * U := by omega
              have cc : wr.cell? ⟨b2, i, none⟩ = some (.int .i64 (1 + S)) := by
                rw [(HBO.out.keep HB.out).cell, rowF_at _ _ _ hlt, HDK.out, if_pos ⟨c0, c1, c2, c3⟩]
              have qq : ((1 + S) != (1 + S)) = false := by simp
              clear HDK
              go_wp2_with fail
              go_roundw
              case rel => exact ⟨i + 1, by omega, by go_num, HB.out⟩
              case measure => simp [intOf]; omega
            · have d0 : 16 * P ≤ 16 * (M : Int) := by omega
              have d1 : 16 * (M : Int) < 16 * P + 16 * R := by omega
              have d2 : 16 * Q ≤ 16 * (K : Int) := by omega
              have d3 : 16 * Q + 16 * U ≤ 16 * (K : Int) := by omega
              have cc : wr.cell? ⟨b2, i, none⟩ = some (.int .i64 (0)) := by
                rw [(HBO.out.keep HB.out).cell, rowF_at _ _ _ hlt, HDK.out, if_neg (fun g => c3 g.2.2.2)]
              have qq : ((0) != (0)) = false := by simp
              clear HDK
              go_wp2_with fail
              go_roundw
              case rel => exact ⟨i + 1, by omega, by go_num, HB.out⟩
              case measure => simp [intOf]; omega
          · have d0 : 16 * P ≤ 16 * (M : Int) := by omega
            have d1 : 16 * (M : Int) < 16 * P + 16 * R := by omega
            have d2 : 16 * (K : Int) < 16 * Q := by omega
            have cc : wr.cell? ⟨b2, i, none⟩ = some (.int .i64 (0)) := by
              rw [(HBO.out.keep HB.out).cell, rowF_at _ _ _ hlt, HDK.out, if_neg (fun g => c2 g.2.2.1)]
            have qq : ((0) != (0)) = false := by simp
            clear HDK
            go_wp2_with fail
            go_roundw
            case rel => exact ⟨i + 1, by omega, by go_num, HB.out⟩
            case measure => simp [intOf]; omega
        · have d0 : 16 * P ≤ 16 * (M : Int) := by omega
          have d1 : 16 * P + 16 * R ≤ 16 * (M : Int) := by omega
          have cc : wr.cell? ⟨b2, i, none⟩ = some (.int .i64 (0)) := by
            rw [(HBO.out.keep HB.out).cell, rowF_at _ _ _ hlt, HDK.out, if_neg (fun g => c1 g.2.1)]
          have qq : ((0) != (0)) = false := by simp
          clear HDK
          go_wp2_with fail
          go_roundw
          case rel => exact ⟨i + 1, by omega, by go_num, HB.out⟩
          case measure => simp [intOf]; omega
      · have d0 : 16 * (M : Int) < 16 * P := by omega
        have cc : wr.cell? ⟨b2, i, none⟩ = some (.int .i64 (0)) := by
          rw [(HBO.out.keep HB.out).cell, rowF_at _ _ _ hlt, HDK.out, if_neg (fun g => c0 g.1)]
        have qq : ((0) != (0)) = false := by simp
        clear HDK
        go_wp2_with fail
        go_roundw
        case rel => exact ⟨i + 1, by omega, by go_num, HB.out⟩
        case measure => simp [intOf]; omega
    · obtain rfl : i = 1024 := by omega
      go_wp2_with (first
        | (go_at_call 11; (with_reducible refine (awake17_any _).mono ?_); rintro e W41 ⟨rfl, k41⟩; have Hw41 := k41; clear k41))
      go_ret
      exact ⟨rfl, bq_trans (bq_trans HBX.out HB.out) Hw41⟩
theorem squares17_walk (a0 a1 a2 a3 a4 : Int) (w : World) (h0 : 0 ≤ a0 ∧ a0 ≤ 255) (h1 : 0 ≤ a1 ∧ a1 ≤ 255) (h2 : 0 ≤ a2 ∧ a2 ≤ 255) (h3 : 0 ≤ a3 ∧ a3 ≤ 255) (h4 : 0 ≤ a4 ∧ a4 ≤ 255) :
    Calls Try.prog 9 #[.int .u8 a0, .int .u8 a1, .int .u8 a2, .int .u8 a3, .int .u8 a4] w fun e w' => e = .returned (.bool true) ∧ Below w.heap.size w w' := by
  have f : ∀ x : Int, 0 ≤ x → 0 ≤ x.tmod 20 ∧ x.tmod 20 ≤ 19 := fun x hx => by rw [Int.tmod_eq_emod_of_nonneg hx]; omega
  have g : 0 ≤ a4.tmod 255 ∧ a4.tmod 255 ≤ 254 := by rw [Int.tmod_eq_emod_of_nonneg h4.1]; omega
  exact squares17_core a0 a1 a2 a3 a4 _ _ _ _ _ w rfl rfl rfl rfl rfl (f a0 h0.1).1 (f a0 h0.1).2 (f a1 h1.1).1 (f a1 h1.1).2 (f a2 h2.1).1 (f a2 h2.1).2 (f a3 h3.1).1 (f a3 h3.1).2 g.1 g.2
end Go.Proofs.Ytgopaajmbifbaaa
