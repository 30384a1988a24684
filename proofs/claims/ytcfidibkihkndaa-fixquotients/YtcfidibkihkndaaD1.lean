import Derived.Test.YtcfidibkihkndaaR1
namespace Go.Proofs.Ytcfidibkihkndaa
open Go.RowKit
set_option linter.unusedVariables false

def zeroB (l : List Nat) : Bool := decide (M5.val l = 0)

set_option maxHeartbeats 1000000 in
theorem nought_any (w : World) (g c : Nat) (l : List Nat) (h : Row w g l) (hl : l.length ≤ 100) (hc : l.length ≤ c) :
    Calls Try.prog 32 #[.slice (some ⟨g, 0, none⟩) l.length c] w fun e w' => e = .returned (.bool (zeroB l)) ∧ w = w' := by
  obtain ⟨n, hn⟩ : ∃ n, n = l.length := ⟨_, rfl⟩
  rw [← hn] at hl hc ⊢
  have HN := Lib.hid hn
  have H := Lib.hid h
  clear h hn
  go_enter Try.func32, Try.ntmps32
  go_wp2
  go_loop [3] (fun i => ∃ k : Nat, k ≤ n ∧ i = .int .i64 k ∧ Hid (∀ j, j < k → M5.dg l j = 0)) (fun i => n - (intOf i).toNat)
  case atStart => exact ⟨0, by omega, rfl, Lib.hid (by intro j hj; omega)⟩
  case round =>
    obtain ⟨k, hk, rfl, hz⟩ := hrel
    by_cases hlt : k < n
    · have hcell := H.out.cell (i := k) (by rw [← HN.out]; exact hlt)
      by_cases h0 : M5.dg l k = 0
      · have k0 : ((M5.dg l k : Int) != 0) = false := by simp [h0]
        have H0 := Lib.hid h0
        clear h0
        go_wp2
        go_round
        case rel => exact ⟨k + 1, by omega, by go_num, Lib.hid (fun j hj => by rcases Nat.lt_or_ge j k with h1 | h1; exact hz.out j h1; rw [show j = k by omega]; exact H0.out)⟩
        case measure => simp [intOf]; omega
      · have k0 : ((M5.dg l k : Int) != 0) = true := by simpa using h0
        have e : zeroB l = false := by
          simp only [zeroB, decide_eq_false_iff_not]
          intro hv
          exact h0 ((M5.val_eq_zero l).1 hv k (by rw [← HN.out]; exact hlt))
        have E := Lib.hid e
        clear h0 e
        go_wp2
        go_ret
        exact ⟨by rw [E.out]; rfl, rfl⟩
    · have e : zeroB l = true := by
        simp only [zeroB, decide_eq_true_eq]
        rw [M5.val_eq_zero]
        intro i hi
        exact hz.out i (by have := HN.out; omega)
      have E := Lib.hid e
      clear e
      go_wp2
      go_ret
      exact ⟨by rw [E.out]; rfl, rfl⟩

def ordB (a b : List Nat) : Int := if M5.val a < M5.val b then -1 else if M5.val a = M5.val b then 0 else 1

set_option maxHeartbeats 2000000 in
theorem order_ref (w : World) (g c g' c' : Nat) (a b : List Nat) (h : Row w g a) (h' : Row w g' b) (ha : M5.Dig a) (hb : M5.Dig b) (hl : a.length = b.length) (hl1 : a.length ≤ 100) (hc : a.length ≤ c) (hc' : a.length ≤ c') :
    Calls Try.prog 37 #[.slice (some ⟨g, 0, none⟩) a.length c, .slice (some ⟨g', 0, none⟩) a.length c'] w fun e w' => e = .returned (.int .i64 (ordB a b)) ∧ ∃ n, w' = w.drewN n := by
  obtain ⟨n, hn⟩ : ∃ n, n = a.length := ⟨_, rfl⟩
  have HH := Lib.hid (And.intro hn (And.intro hl (And.intro ha hb)))
  have H := Lib.hid (And.intro h h')
  rw [← hn] at hl1 hc hc' ⊢
  clear h h' hn hl ha hb
  go_enter Try.func37, Try.ntmps37
  go_wp2
  go_loopw [5] (fun i wr => ∃ k m : Nat, k ≤ n ∧ i = .int .i64 ((k : Int) - 1) ∧ wr = w.drewN m ∧ Hid (a.drop k = b.drop k)) (fun i _ => (intOf i + 1).toNat)
  case atStart => exact ⟨n, 0, by omega, rfl, rfl, Lib.hid (by obtain ⟨e1, e2, _⟩ := HH.out; rw [List.drop_of_length_le (by omega), List.drop_of_length_le (by omega)])⟩
  case round =>
    obtain ⟨k, m, hk, rfl, rfl, hd⟩ := hrel
    rcases k with _ | k
    · have e : ordB a b = 0 := by
        have : a = b := by simpa using hd.out
        simp [ordB, this]
      have E := Lib.hid e
      clear e
      go_wp2
      go_ret
      exact ⟨by rw [E.out]; rfl, _, rfl⟩
    · obtain ⟨e1, e2, da, db⟩ := HH.out
      have c1 := H.out.1.cell (i := k) (by omega)
      have c2 := H.out.2.cell (i := k) (by omega)
      have t := M5.drop_step a b k e2 (by omega) hd.out
      have t1 := M5.val_lt_of_top a b k e2 da (by omega) hd.out
      have t2 := M5.val_lt_of_top b a k e2.symm db (by omega) hd.out.symm
      have T := Lib.hid (And.intro t (And.intro t1 t2))
      have ek : ((k + 1 : Nat) : Int) - 1 = (k : Int) := by omega
      rw [ek]
      clear t t1 t2 e1 e2 da db ek hd
      generalize hx : M5.dg a k = x at *
      generalize hy : M5.dg b k = y at *
      clear hx hy
      by_cases q1 : x < y
      · have e : ordB a b = -1 := by simp only [ordB]; rw [if_pos (T.out.2.1 q1)]
        have E := Lib.hid e
        clear e T
        go_wp2
        go_quiet (fail)
        go_wp2
        go_ret
        exact ⟨by rw [E.out]; rfl, _, World.drewN_drewN ..⟩
      · by_cases q2 : y < x
        · have e : ordB a b = 1 := by simp only [ordB]; have := T.out.2.2 q2; rw [if_neg (by omega), if_neg (by omega)]
          have E := Lib.hid e
          clear e T
          go_wp2
          go_quiet (fail)
          go_wp2
          go_quiet (fail)
          go_wp2
          go_ret
          exact ⟨by rw [E.out]; rfl, _, by rw [World.drewN_drewN, World.drewN_drewN]⟩
        · have d := T.out.1 (by omega)
          have DD := Lib.hid d
          clear d T
          go_wp2
          go_quiet (fail)
          go_wp2
          go_quiet (fail)
          go_wp2
          go_roundw
          case rel => exact ⟨k, _, by omega, by go_num, rfl, DD⟩
          case measure => simp [intOf]

end Go.Proofs.Ytcfidibkihkndaa
