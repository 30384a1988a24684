import Derived.Test.YtgopaajmbifbaaaZK5
namespace Go.Proofs.Ytgopaajmbifbaaa
open Go.RowKit
set_option linter.unusedVariables false
set_option linter.unusedSimpArgs false
set_option maxRecDepth 100000
def sgC (s : Sg) : List Value := [.int .i64 s.ax, .int .i64 s.ay, .int .i64 s.bx, .int .i64 s.by1, .int .i64 s.l, .int .i64 s.r]
def Sgs (w : World) (v : Value) (L : List Sg) : Prop := Sl w 6 (fun _ cs s => cs = sgC s) v L
structure Sgm (w : World) (b o : Nat) (s : Sg) : Prop where
  rg : w.rangeAt b o (sgC s)
theorem Sgm.keep {w w' : World} {b o : Nat} {s : Sg} (h : Sgm w b o s) (hb : Below w.heap.size w w') : Sgm w' b o s := ⟨rangeAt_keep h.rg hb⟩
theorem Sgm.lt {w : World} {b o : Nat} {s : Sg} (h : Sgm w b o s) : b < w.heap.size := block_lt_of_cell (h.rg 0 _ rfl)
theorem Sgm.turned {w w' : World} {b o q : Nat} {s : Sg} (h : Sgm w b o s) (T : Turned q w w') (hq : b ≠ q) : Sgm w' b o s := ⟨fun j u hj => (T.cell (p := ⟨b, o + j, none⟩) hq).trans (h.rg j u hj)⟩
theorem Sgm.l {w : World} {b o : Nat} {s : Sg} (h : Sgm w b o s) : w.cell? ⟨b, o + 4, none⟩ = some (.int .i64 s.l) := h.rg 4 _ rfl
theorem Sgm.r {w : World} {b o : Nat} {s : Sg} (h : Sgm w b o s) : w.cell? ⟨b, o + 5, none⟩ = some (.int .i64 s.r) := h.rg 5 _ rfl
theorem Sgs.keep {w w' : World} {v : Value} {L : List Sg} (h : Sgs w v L) (hb : Below w.heap.size w w') : Sgs w' v L := Sl.keep (fun _ _ _ _ h _ => h) h hb
theorem Sgs.at {w : World} {v : Value} {L : List Sg} (h : Sgs w v L) : ∃ a c b o, v = .slice a L.length c ∧ L.length ≤ 9223372036854775807 ∧ ∀ i (hi : i < L.length), a = some ⟨b, o, none⟩ ∧ Sgm w b (o + i * 6) L[i] := by
  obtain ⟨a, c, b, o, h1, h2, h3⟩ := h.get
  refine ⟨a, c, b, o, h1, h2, fun i hi => ?_⟩
  obtain ⟨g1, _, cs, _, g4, g5⟩ := h3 i hi
  rw [g4] at g5
  exact ⟨g1, ⟨g5⟩⟩
theorem OwnC.sgs {w : World} {B : Nat} {e : TypeId} {v : Value} {L : List Sg} (h : OwnC w B e 6 v (L.map sgC)) : Sgs w v L :=
  h.sl (by simp) fun i h1 h2 => by simp
def allR (L : List Sg) : Bool := L.all rgtS
set_option maxHeartbeats 2000000 in
theorem allright17_any (L : List Sg) (v : Value) (w : World) (hL : Sgs w v L) : Calls Try.prog 31 #[v] w fun e w' => e = .returned (.bool (allR L)) ∧ Below w.heap.size w w' := by
  obtain ⟨la, lc, lb, lo, rfl, llen, lget⟩ := hL.at
  have HG := Lib.hid lget
  clear hL lget
  obtain ⟨n, hn⟩ : ∃ n, n = L.length := ⟨_, rfl⟩
  rw [← hn] at llen
  rw [← hn]
  have HN := Lib.hid hn
  have hn9 : (n : Int) ≤ 9223372036854775807 := by omega
  clear hn llen
  go_enter Try.func31, Try.ntmps31
  go_wp2_with fail
  go_loopw [7] (fun i wr => ∃ k : Nat, k ≤ n ∧ i = .int .i64 (k : Int) ∧ allR (L.take k) = true ∧ Below w.heap.size w wr) (fun i _ => n - (intOf i).toNat)
  case atStart => exact ⟨0, by omega, rfl, rfl, bq_refl _⟩
  case round =>
    obtain ⟨k, hk, rfl, hall, hbel⟩ := hrel
    by_cases hlt : k < n
    · obtain ⟨rfl, he⟩ := HG.out k (by have := HN.out; omega)
      have RE := he.keep hbel
      have ltL := RE.lt
      have HK : Hid (L.take (k + 1) = L.take k ++ [L[k]'(by have := HN.out; omega)]) := Lib.hid (List.take_succ_eq_append_getElem (by have := HN.out; omega))
      have HM : Hid (L[k]'(by have := HN.out; omega) ∈ L) := Lib.hid (List.getElem_mem _)
      clear he HG
      generalize L[k]'(by have := HN.out; omega) = s at *
      have HB := Lib.hid hbel
      have HA := Lib.hid hall
      have i1 : (0 : Int) ≤ (k : Int) := by omega
      have i2 : (k : Int) < (n : Int) := by omega
      clear hbel hall
      have H1 := Lib.hid fun W => right17_any s W
      have HQ : Hid (rgtS s = rgtS s) := Lib.hid rfl
      cases q : rgtS s with
      | false =>
        rw [q] at H1
        have HF := Lib.hid q
        clear q
        go_wp2_with (first
          | (refine wpList_load_mid rfl 27 _ rfl lb (lo + k * 6) rfl [.int .i64 s.ax, .int .i64 s.ay, .int .i64 s.bx, .int .i64 s.by1, .int .i64 s.l, .int .i64 s.r] _ RE.rg Try.underlying27 rfl szSg ?_)
          | (refine wl_alloc 27 _ zeSg rfl rfl ?_; intro W21 bs Bs_21 l21 k21; have gs : wr.heap.size ≤ bs := l21; have Oe_21 := RE.keep k21; have Hw21 := k21; clear l21 k21 RE)
          | (refine wl_store 27 6 szSg _ _ rfl rfl _ rfl #[.int .i64 s.ax, .int .i64 s.ay, .int .i64 s.bx, .int .i64 s.by1, .int .i64 s.l, .int .i64 s.r] rfl _ _ Bs_21 rfl rfl (by kernel_rfl) ?_; intro W22 Bs_22 T22; have Oe_22 := Oe_21.turned T22 (Nat.ne_of_lt (Nat.lt_of_lt_of_le ltL gs)); have Hw22 := T22.below Hw21 gs; clear T22 Oe_21 Bs_21 Hw21)
          | (refine wl_load 27 6 _ Try.underlying27 rfl szSg _ rfl rfl _ rfl _ _ Bs_22 rfl ?_)
          | (go_at_call 12; (with_reducible refine (H1.out _).mono ?_); rintro e W23 ⟨rfl, k23⟩; have Bs_23 := Bs_22.keep k23; have Oe_23 := Oe_22.keep k23; have Hw23 := bq_trans Hw22 k23; clear k23 Bs_22 Oe_22 Hw22))
        go_ret
        exact ⟨ret_bool (by rw [allR, List.all_eq_false.2 ⟨s, HM.out, by rw [HF.out]; simp⟩]), bq_trans HB.out Hw23⟩
      | true =>
        rw [q] at H1
        have HF := Lib.hid q
        clear q
        go_wp2_with (first
          | (refine wpList_load_mid rfl 27 _ rfl lb (lo + k * 6) rfl [.int .i64 s.ax, .int .i64 s.ay, .int .i64 s.bx, .int .i64 s.by1, .int .i64 s.l, .int .i64 s.r] _ RE.rg Try.underlying27 rfl szSg ?_)
          | (refine wl_alloc 27 _ zeSg rfl rfl ?_; intro W21 bs Bs_21 l21 k21; have gs : wr.heap.size ≤ bs := l21; have Oe_21 := RE.keep k21; have Hw21 := k21; clear l21 k21 RE)
          | (refine wl_store 27 6 szSg _ _ rfl rfl _ rfl #[.int .i64 s.ax, .int .i64 s.ay, .int .i64 s.bx, .int .i64 s.by1, .int .i64 s.l, .int .i64 s.r] rfl _ _ Bs_21 rfl rfl (by kernel_rfl) ?_; intro W22 Bs_22 T22; have Oe_22 := Oe_21.turned T22 (Nat.ne_of_lt (Nat.lt_of_lt_of_le ltL gs)); have Hw22 := T22.below Hw21 gs; clear T22 Oe_21 Bs_21 Hw21)
          | (refine wl_load 27 6 _ Try.underlying27 rfl szSg _ rfl rfl _ rfl _ _ Bs_22 rfl ?_)
          | (go_at_call 12; (with_reducible refine (H1.out _).mono ?_); rintro e W23 ⟨rfl, k23⟩; have Bs_23 := Bs_22.keep k23; have Oe_23 := Oe_22.keep k23; have Hw23 := bq_trans Hw22 k23; clear k23 Bs_22 Oe_22 Hw22))
        go_roundw
        case rel => exact ⟨k + 1, by omega, by go_num, by rw [HK.out, allR, List.all_append]; have h1 := HA.out; unfold allR at h1; rw [h1]; simp [HF.out], bq_trans HB.out Hw23⟩
        case measure => simp [intOf]; omega
    · have hkn : k = n := by omega
      have HB := Lib.hid hbel
      have HA : Hid (allR L = true) := Lib.hid (by rw [hkn, HN.out, List.take_length] at hall; exact hall)
      clear hbel hall
      subst hkn
      go_wp2_with fail
      go_ret
      exact ⟨ret_bool HA.out.symm, HB.out⟩
set_option maxHeartbeats 2000000 in
theorem lawright17_any (L : List Sg) (v : Value) (w : World) (hL : Sgs w v L) : Calls Try.prog 19 #[v] w fun e w' => e = .returned (.bool (allR L)) ∧ Below w.heap.size w w' := by
  obtain ⟨la, lc, lb, lo, rfl, llen, lget⟩ := hL.at
  have HG := Lib.hid lget
  clear hL lget
  obtain ⟨n, hn⟩ : ∃ n, n = L.length := ⟨_, rfl⟩
  rw [← hn] at llen
  rw [← hn]
  have HN := Lib.hid hn
  have hn9 : (n : Int) ≤ 9223372036854775807 := by omega
  clear hn llen
  go_enter Try.func19, Try.ntmps19
  go_wp2_with fail
  go_loopw [7] (fun i wr => ∃ k : Nat, k ≤ n ∧ i = .int .i64 (k : Int) ∧ allR (L.take k) = true ∧ Below w.heap.size w wr) (fun i _ => n - (intOf i).toNat)
  case atStart => exact ⟨0, by omega, rfl, rfl, bq_refl _⟩
  case round =>
    obtain ⟨k, hk, rfl, hall, hbel⟩ := hrel
    by_cases hlt : k < n
    · obtain ⟨rfl, he⟩ := HG.out k (by have := HN.out; omega)
      have RE := he.keep hbel
      have ltL := RE.lt
      have HK : Hid (L.take (k + 1) = L.take k ++ [L[k]'(by have := HN.out; omega)]) := Lib.hid (List.take_succ_eq_append_getElem (by have := HN.out; omega))
      have HM : Hid (L[k]'(by have := HN.out; omega) ∈ L) := Lib.hid (List.getElem_mem _)
      clear he HG
      generalize L[k]'(by have := HN.out; omega) = s at *
      have HB := Lib.hid hbel
      have HA := Lib.hid hall
      have i1 : (0 : Int) ≤ (k : Int) := by omega
      have i2 : (k : Int) < (n : Int) := by omega
      clear hbel hall
      have H1 := Lib.hid fun W => rright17_any s W
      have HQ : Hid (rgtS s = rgtS s) := Lib.hid rfl
      cases q : rgtS s with
      | false =>
        rw [q] at H1
        have HF := Lib.hid q
        clear q
        go_wp2_with (first
          | (refine wpList_load_mid rfl 27 _ rfl lb (lo + k * 6) rfl [.int .i64 s.ax, .int .i64 s.ay, .int .i64 s.bx, .int .i64 s.by1, .int .i64 s.l, .int .i64 s.r] _ RE.rg Try.underlying27 rfl szSg ?_)
          | (refine wl_alloc 27 _ zeSg rfl rfl ?_; intro W21 bs Bs_21 l21 k21; have gs : wr.heap.size ≤ bs := l21; have Oe_21 := RE.keep k21; have Hw21 := k21; clear l21 k21 RE)
          | (refine wl_store 27 6 szSg _ _ rfl rfl _ rfl #[.int .i64 s.ax, .int .i64 s.ay, .int .i64 s.bx, .int .i64 s.by1, .int .i64 s.l, .int .i64 s.r] rfl _ _ Bs_21 rfl rfl (by kernel_rfl) ?_; intro W22 Bs_22 T22; have Oe_22 := Oe_21.turned T22 (Nat.ne_of_lt (Nat.lt_of_lt_of_le ltL gs)); have Hw22 := T22.below Hw21 gs; clear T22 Oe_21 Bs_21 Hw21)
          | (refine wl_load 27 6 _ Try.underlying27 rfl szSg _ rfl rfl _ rfl _ _ Bs_22 rfl ?_)
          | (go_at_call 13; (with_reducible refine (H1.out _).mono ?_); rintro e W23 ⟨rfl, k23⟩; have Bs_23 := Bs_22.keep k23; have Oe_23 := Oe_22.keep k23; have Hw23 := bq_trans Hw22 k23; clear k23 Bs_22 Oe_22 Hw22))
        go_ret
        exact ⟨ret_bool (by rw [allR, List.all_eq_false.2 ⟨s, HM.out, by rw [HF.out]; simp⟩]), bq_trans HB.out Hw23⟩
      | true =>
        rw [q] at H1
        have HF := Lib.hid q
        clear q
        go_wp2_with (first
          | (refine wpList_load_mid rfl 27 _ rfl lb (lo + k * 6) rfl [.int .i64 s.ax, .int .i64 s.ay, .int .i64 s.bx, .int .i64 s.by1, .int .i64 s.l, .int .i64 s.r] _ RE.rg Try.underlying27 rfl szSg ?_)
          | (refine wl_alloc 27 _ zeSg rfl rfl ?_; intro W21 bs Bs_21 l21 k21; have gs : wr.heap.size ≤ bs := l21; have Oe_21 := RE.keep k21; have Hw21 := k21; clear l21 k21 RE)
          | (refine wl_store 27 6 szSg _ _ rfl rfl _ rfl #[.int .i64 s.ax, .int .i64 s.ay, .int .i64 s.bx, .int .i64 s.by1, .int .i64 s.l, .int .i64 s.r] rfl _ _ Bs_21 rfl rfl (by kernel_rfl) ?_; intro W22 Bs_22 T22; have Oe_22 := Oe_21.turned T22 (Nat.ne_of_lt (Nat.lt_of_lt_of_le ltL gs)); have Hw22 := T22.below Hw21 gs; clear T22 Oe_21 Bs_21 Hw21)
          | (refine wl_load 27 6 _ Try.underlying27 rfl szSg _ rfl rfl _ rfl _ _ Bs_22 rfl ?_)
          | (go_at_call 13; (with_reducible refine (H1.out _).mono ?_); rintro e W23 ⟨rfl, k23⟩; have Bs_23 := Bs_22.keep k23; have Oe_23 := Oe_22.keep k23; have Hw23 := bq_trans Hw22 k23; clear k23 Bs_22 Oe_22 Hw22))
        go_roundw
        case rel => exact ⟨k + 1, by omega, by go_num, by rw [HK.out, allR, List.all_append]; have h1 := HA.out; unfold allR at h1; rw [h1]; simp [HF.out], bq_trans HB.out Hw23⟩
        case measure => simp [intOf]; omega
    · have hkn : k = n := by omega
      have HB := Lib.hid hbel
      have HA : Hid (allR L = true) := Lib.hid (by rw [hkn, HN.out, List.take_length] at hall; exact hall)
      clear hbel hall
      subst hkn
      go_wp2_with fail
      go_ret
      exact ⟨ret_bool HA.out.symm, HB.out⟩
set_option maxHeartbeats 1000000 in
theorem wound_no (v : Value) (st x y : Int) (q1 q2 : Bool) (w : World) (hq : q1 = false ∨ q1 = true ∧ q2 = false) (H1 : Hid (∀ W, Calls Try.prog 27 #[.int .i64 x] W fun e w' => e = .returned (.bool q1) ∧ Below W.heap.size W w')) (H2 : Hid (∀ W, Calls Try.prog 27 #[.int .i64 y] W fun e w' => e = .returned (.bool q2) ∧ Below W.heap.size W w')) :
    Calls Try.prog 17 #[v, .int .i64 st, .int .i64 x, .int .i64 y] w fun e w' => e = .returned (.int .i64 0) ∧ Below w.heap.size w w' := by
  rcases hq with rfl | ⟨rfl, rfl⟩
  · go_enter Try.func17, Try.ntmps17
    go_wp2_with (first
      | (go_at_call 27; (with_reducible refine (H1.out _).mono ?_); rintro e W1 ⟨rfl, k1⟩; have Hw1 := k1; clear k1))
    go_ret
    exact ⟨rfl, Hw1⟩
  · go_enter Try.func17, Try.ntmps17
    go_wp2_with (first
      | (go_at_call 27; (with_reducible refine (H1.out _).mono ?_); rintro e W1 ⟨rfl, k1⟩; have Hw1 := k1; clear k1)
      | (go_at_call 27; (with_reducible refine (H2.out _).mono ?_); rintro e W2 ⟨rfl, k2⟩; have Hw2 := bq_trans Hw1 k2; clear k2 Hw1))
    go_ret
    exact ⟨rfl, Hw2⟩
set_option maxHeartbeats 2000000 in
theorem wound_yes (L : List Sg) (v : Value) (st x y : Int) (w : World) (hL : Sgs w v L) (hx : smpB x = true) (hy : smpB y = true) :
    Calls Try.prog 17 #[v, .int .i64 st, .int .i64 x, .int .i64 y] w fun e w' => e = .returned (.int .i64 (wnd L st x y)) ∧ Below w.heap.size w w' := by
  have H1 := Lib.hid fun W => smp_any x W
  have H2 := Lib.hid fun W => smp_any y W
  rw [hx] at H1
  rw [hy] at H2
  have HX := Lib.hid hx
  have HY := Lib.hid hy
  clear hx hy
  obtain ⟨la, lc, lb, lo, rfl, llen, lget⟩ := hL.at
  have HG := Lib.hid lget
  clear hL lget
  obtain ⟨n, hn⟩ : ∃ n, n = L.length := ⟨_, rfl⟩
  rw [← hn] at llen
  rw [← hn]
  have HN := Lib.hid hn
  have hn9 : (n : Int) ≤ 9223372036854775807 := by omega
  clear hn llen
  go_enter Try.func17, Try.ntmps17
  go_wp2_with (first
    | (go_at_call 27; (with_reducible refine (H1.out _).mono ?_); rintro e W1 ⟨rfl, k1⟩; have Hw1 := k1; clear k1)
    | (go_at_call 27; (with_reducible refine (H2.out _).mono ?_); rintro e W2 ⟨rfl, k2⟩; have Hw2 := bq_trans Hw1 k2; clear k2 Hw1))
  have HB0 := Lib.hid Hw2
  clear H1 H2 Hw2
  go_loopw [9, 22] (fun t i wr => ∃ k : Nat, k ≤ n ∧ i = .int .i64 (k : Int) ∧ t = .int .i64 (wnd (L.take k) st x y) ∧ Below W2.heap.size W2 wr) (fun _ i _ => n - (intOf i).toNat)
  case atStart => exact ⟨0, by omega, rfl, rfl, bq_refl _⟩
  case round =>
    obtain ⟨k, hk, rfl, rfl, hbel⟩ := hrel
    by_cases hlt : k < n
    · obtain ⟨rfl, he⟩ := HG.out k (by have := HN.out; omega)
      have RE := (he.keep HB0.out).keep hbel
      have ltL := RE.lt
      have HK : Hid (wnd (L.take (k + 1)) st x y = wnd (L.take k) st x y + wnd1 (L[k]'(by have := HN.out; omega)) st x y) := Lib.hid (wnd_take L st x y k (by have := HN.out; omega))
      have tb := wnd_take_bd L st x y k (by have := HN.out; omega)
      clear he HG
      generalize L[k]'(by have := HN.out; omega) = s at *
      generalize wnd (L.take k) st x y = T at *
      have HB := Lib.hid hbel
      have i1 : (0 : Int) ≤ (k : Int) := by omega
      have i2 : (k : Int) < (n : Int) := by omega
      have t0 : -(k : Int) ≤ T := tb.1
      have t1 : T ≤ (k : Int) := tb.2
      clear hbel tb
      have H3 := Lib.hid fun W => right17_any s W
      cases q : rgtS s with
      | false =>
        rw [q] at H3
        have HF : Hid (wnd (L.take (k + 1)) st x y = T) := Lib.hid (by rw [HK.out, wnd1, q]; simp)
        clear q HK
        go_wp2_with (first
          | (refine wpList_load_mid rfl 27 _ rfl lb (lo + k * 6) rfl [.int .i64 s.ax, .int .i64 s.ay, .int .i64 s.bx, .int .i64 s.by1, .int .i64 s.l, .int .i64 s.r] _ RE.rg Try.underlying27 rfl szSg ?_)
          | (refine wl_alloc 27 _ zeSg rfl rfl ?_; intro W21 bs Bs_21 l21 k21; have gs : wr.heap.size ≤ bs := l21; have Oe_21 := RE.keep k21; have Hw21 := k21; clear l21 k21 RE)
          | (refine wl_store 27 6 szSg _ _ rfl rfl _ rfl #[.int .i64 s.ax, .int .i64 s.ay, .int .i64 s.bx, .int .i64 s.by1, .int .i64 s.l, .int .i64 s.r] rfl _ _ Bs_21 rfl rfl (by kernel_rfl) ?_; intro W22 Bs_22 T22; have Oe_22 := Oe_21.turned T22 (Nat.ne_of_lt (Nat.lt_of_lt_of_le ltL gs)); have Hw22 := T22.below Hw21 gs; clear T22 Oe_21 Bs_21 Hw21)
          | (refine wl_load 27 6 _ Try.underlying27 rfl szSg _ rfl rfl _ rfl _ _ Bs_22 rfl ?_)
          | (go_at_call 12; (with_reducible refine (H3.out _).mono ?_); rintro e W23 ⟨rfl, k23⟩; have Bs_23 := Bs_22.keep k23; have Oe_23 := Oe_22.keep k23; have Hw23 := bq_trans Hw22 k23; clear k23 Bs_22 Oe_22 Hw22))
        go_roundw
        case rel => exact ⟨k + 1, by omega, by go_num, congrArg (Value.int .i64) HF.out.symm, bq_trans HB.out Hw23⟩
        case measure => simp [intOf]; omega
      | true =>
        rw [q] at H3
        have H4 := Lib.hid fun W => down_any s W
        have H5 := Lib.hid fun W => winds_any (dnS s) st x y W (by rw [rgtS_dn]; exact q) HX.out HY.out
        have HF : Hid (wnd (L.take (k + 1)) st x y = T + wndS (dnS s) st x y) := Lib.hid (by rw [HK.out, wnd1, q]; rfl)
        have vb := wndS_bd (dnS s) st x y
        clear q HK
        generalize dnS s = d at *
        generalize wndS d st x y = V at *
        have v0 : -1 ≤ V := vb.1
        have v1 : V ≤ 1 := vb.2
        clear vb
        go_upto_region 8 with (go_big_may; first
          | (refine wpList_load_mid rfl 27 _ rfl lb (lo + k * 6) rfl [.int .i64 s.ax, .int .i64 s.ay, .int .i64 s.bx, .int .i64 s.by1, .int .i64 s.l, .int .i64 s.r] _ RE.rg Try.underlying27 rfl szSg ?_)
          | (refine wl_alloc 27 _ zeSg rfl rfl ?_; intro W21 bs Bs_21 l21 k21; have gs : wr.heap.size ≤ bs := l21; have Oe_21 := RE.keep k21; have Hw21 := k21; clear l21 k21 RE)
          | (refine wl_store 27 6 szSg _ _ rfl rfl _ rfl #[.int .i64 s.ax, .int .i64 s.ay, .int .i64 s.bx, .int .i64 s.by1, .int .i64 s.l, .int .i64 s.r] rfl _ _ Bs_21 rfl rfl (by kernel_rfl) ?_; intro W22 Bs_22 T22; have Oe_22 := Oe_21.turned T22 (Nat.ne_of_lt (Nat.lt_of_lt_of_le ltL gs)); have Hw22 := T22.below Hw21 gs; clear T22 Oe_21 Bs_21 Hw21)
          | (refine wl_load 27 6 _ Try.underlying27 rfl szSg _ rfl rfl _ rfl _ _ Bs_22 rfl ?_)
          | (go_at_call 12; (with_reducible refine (H3.out _).mono ?_); rintro e W23 ⟨rfl, k23⟩; have Bs_23 := Bs_22.keep k23; have Oe_23 := Oe_22.keep k23; have Hw23 := bq_trans Hw22 k23; clear k23 Bs_22 Oe_22 Hw22))
        go_wp2_with (first
          | (refine wl_load 27 6 _ Try.underlying27 rfl szSg _ rfl rfl _ rfl _ _ Bs_23 rfl ?_)
          | (go_at_call 29; (with_reducible refine (H4.out _).mono ?_); rintro e W24 ⟨rfl, k24⟩; have Bs_24 := Bs_23.keep k24; have Oe_24 := Oe_23.keep k24; have Hw24 := bq_trans Hw23 k24; clear k24 Bs_23 Oe_23 Hw23)
          | (go_at_call 28; (with_reducible refine (H5.out _).mono ?_); rintro e W25 ⟨rfl, k25⟩; have Bs_25 := Bs_24.keep k25; have Oe_25 := Oe_24.keep k25; have Hw25 := bq_trans Hw24 k25; clear k25 Bs_24 Oe_24 Hw24))
        go_roundw
        case rel => exact ⟨k + 1, by omega, by go_num, congrArg (Value.int .i64) HF.out.symm, bq_trans HB.out Hw25⟩
        case measure => simp [intOf]; omega
    · have hkn : k = n := by omega
      have HB := Lib.hid hbel
      have HA : Hid (wnd (L.take k) st x y = wnd L st x y) := Lib.hid (by rw [hkn, HN.out, List.take_length])
      clear hbel
      generalize wnd (L.take k) st x y = T at *
      subst hkn
      go_wp2_with fail
      go_ret
      exact ⟨ret_int HA.out, bq_trans HB0.out HB.out⟩
theorem wound_any (L : List Sg) (v : Value) (st x y : Int) (w : World) (hL : Sgs w v L) :
    Calls Try.prog 17 #[v, .int .i64 st, .int .i64 x, .int .i64 y] w fun e w' => e = .returned (.int .i64 (if smpB x && smpB y then wnd L st x y else 0)) ∧ Below w.heap.size w w' := by
  cases q1 : smpB x with
  | false => exact wound_no v st x y false (smpB y) w (Or.inl rfl) (Lib.hid fun W => q1 ▸ smp_any x W) (Lib.hid fun W => smp_any y W)
  | true =>
    cases q2 : smpB y with
    | false => exact wound_no v st x y true false w (Or.inr ⟨rfl, rfl⟩) (Lib.hid fun W => q1 ▸ smp_any x W) (Lib.hid fun W => q2 ▸ smp_any y W)
    | true => exact wound_yes L v st x y w hL q1 q2
end Go.Proofs.Ytgopaajmbifbaaa
namespace Go.Proofs.Ytgopaajmbifbaaa
open Go.RowKit
set_option linter.unusedVariables false
set_option linter.unusedSimpArgs false
set_option maxRecDepth 100000
theorem sideV_bd (s : Sg) (x y : Int) : -1 ≤ sideV s x y ∧ sideV s x y ≤ 1 := by
  unfold sideV
  repeat' split
  all_goals decide
set_option maxHeartbeats 2000000 in
theorem rwound_any (L : List Sg) (v : Value) (st x y : Int) (w : World) (hL : Sgs w v L) (hx : smpB x = true) (hy : smpB y = true) :
    Calls Try.prog 15 #[v, .int .i64 st, .int .i64 x, .int .i64 y] w fun e w' => e = .returned (.int .i64 (wnd L st x y)) ∧ Below w.heap.size w w' := by
  have HX := Lib.hid hx
  have HY := Lib.hid hy
  clear hx hy
  obtain ⟨la, lc, lb, lo, rfl, llen, lget⟩ := hL.at
  have HG := Lib.hid lget
  clear hL lget
  obtain ⟨n, hn⟩ : ∃ n, n = L.length := ⟨_, rfl⟩
  rw [← hn] at llen
  rw [← hn]
  have HN := Lib.hid hn
  have hn9 : (n : Int) ≤ 9223372036854775807 := by omega
  clear hn llen
  go_enter Try.func15, Try.ntmps15
  go_wp2_with fail
  go_loopw [9, 10] (fun t i wr => ∃ k : Nat, k ≤ n ∧ i = .int .i64 (k : Int) ∧ t = .int .i64 (wnd (L.take k) st x y) ∧ Below w.heap.size w wr) (fun _ i _ => n - (intOf i).toNat)
  case atStart => exact ⟨0, by omega, rfl, rfl, bq_refl _⟩
  case round =>
    obtain ⟨k, hk, rfl, rfl, hbel⟩ := hrel
    by_cases hlt : k < n
    · obtain ⟨rfl, he⟩ := HG.out k (by have := HN.out; omega)
      have RE := he.keep hbel
      have HK : Hid (wnd (L.take (k + 1)) st x y = wnd (L.take k) st x y + wnd1 (L[k]'(by have := HN.out; omega)) st x y) := Lib.hid (wnd_take L st x y k (by have := HN.out; omega))
      have tb := wnd_take_bd L st x y k (by have := HN.out; omega)
      clear he HG
      generalize L[k]'(by have := HN.out; omega) = s at *
      generalize wnd (L.take k) st x y = T at *
      have HB := Lib.hid hbel
      have i1 : (0 : Int) ≤ (k : Int) := by omega
      have i2 : (k : Int) < (n : Int) := by omega
      have t0 : -(k : Int) ≤ T := tb.1
      have t1 : T ≤ (k : Int) := tb.2
      clear hbel tb
      have H3 := Lib.hid fun W => rright17_any s W
      cases q : rgtS s with
      | false =>
        rw [q] at H3
        have HF : Hid (wnd (L.take (k + 1)) st x y = T) := Lib.hid (by rw [HK.out, wnd1, q]; simp)
        clear q HK
        go_wp2_with (first
          | (refine wpList_load_mid rfl 30 _ rfl lb (lo + k * 6) rfl [.int .i64 s.ax, .int .i64 s.ay, .int .i64 s.bx, .int .i64 s.by1, .int .i64 s.l, .int .i64 s.r] _ RE.rg Try.underlying30 rfl szRs ?_)
          | (go_at_call 13; (with_reducible refine (H3.out _).mono ?_); rintro e W21 ⟨rfl, k21⟩; have Oe_21 := RE.keep k21; have Hw21 := k21; clear k21 RE))
        go_roundw
        case rel => exact ⟨k + 1, by omega, by go_num, congrArg (Value.int .i64) HF.out.symm, bq_trans HB.out Hw21⟩
        case measure => simp [intOf]; omega
      | true =>
        rw [q] at H3
        have H4 := Lib.hid fun W => side_any s x y W q HX.out HY.out
        obtain ⟨q1, h1⟩ : ∃ q1, (s.l == st) = q1 := ⟨_, rfl⟩
        obtain ⟨q2, h2⟩ : ∃ q2, (s.r == st) = q2 := ⟨_, rfl⟩
        have HF : Hid (wnd (L.take (k + 1)) st x y = T + sideV s x y * ((if q1 then 1 else 0) + (if q2 then -1 else 0))) := Lib.hid (by rw [HK.out, wnd1, q, if_pos rfl, wnd_side, ← h1, ← h2]; simp [sd])
        have vb := sideV_bd s x y
        clear q HK
        generalize sideV s x y = V at *
        have v0 : -1 ≤ V := vb.1
        have v1 : V ≤ 1 := vb.2
        clear vb
        cases q1 <;> cases q2
        all_goals
          go_upto_region 6 with (go_big_may; first
            | (refine wpList_load_mid rfl 30 _ rfl lb (lo + k * 6) rfl [.int .i64 s.ax, .int .i64 s.ay, .int .i64 s.bx, .int .i64 s.by1, .int .i64 s.l, .int .i64 s.r] _ RE.rg Try.underlying30 rfl szRs ?_)
            | (go_at_call 13; (with_reducible refine (H3.out _).mono ?_); rintro e W21 ⟨rfl, k21⟩; have Oe_21 := RE.keep k21; have Hw21 := k21; clear k21 RE))
          go_wp2_with (first
            | (refine wpList_load_mid rfl 30 _ rfl lb (lo + k * 6) rfl [.int .i64 s.ax, .int .i64 s.ay, .int .i64 s.bx, .int .i64 s.by1, .int .i64 s.l, .int .i64 s.r] _ Oe_21.rg Try.underlying30 rfl szRs ?_)
            | (go_at_call 26; (with_reducible refine (H4.out _).mono ?_); rintro e W22 ⟨rfl, k22⟩; have Oe_22 := Oe_21.keep k22; have Hw22 := bq_trans Hw21 k22; clear k22 Oe_21 Hw21; have cel_22 : W22.cell? ⟨lb, lo + k * 6 + 4, none⟩ = some (.int .i64 s.l) := Oe_22.l; have cer_22 : W22.cell? ⟨lb, lo + k * 6 + 5, none⟩ = some (.int .i64 s.r) := Oe_22.r))
          go_roundw
          case rel => exact ⟨k + 1, by omega, by go_num, congrArg (Value.int .i64) (by rw [HF.out]; simp; try omega), bq_trans HB.out Hw22⟩
          case measure => simp [intOf]; omega
    · have hkn : k = n := by omega
      have HB := Lib.hid hbel
      have HA : Hid (wnd (L.take k) st x y = wnd L st x y) := Lib.hid (by rw [hkn, HN.out, List.take_length])
      clear hbel
      generalize wnd (L.take k) st x y = T at *
      subst hkn
      go_wp2_with fail
      go_ret
      exact ⟨ret_int HA.out, HB.out⟩
theorem sg_info : (Try.prog.info? 27).map (fun i => (i.zero, i.size, decide (i.bytes ≤ 1000))) = some (some (.agg #[.int .i64 0, .int .i64 0, .int .i64 0, .int .i64 0, .int .i64 0, .int .i64 0]), 6, true) := by kernel_rfl
theorem rs_info : (Try.prog.info? 30).map (fun i => (i.zero, i.size, decide (i.bytes ≤ 1000))) = some (some (.agg #[.int .i64 0, .int .i64 0, .int .i64 0, .int .i64 0, .int .i64 0, .int .i64 0]), 6, true) := by kernel_rfl
theorem sg1_run (ax ay bx by1 l r : Int) (w : World) : (Instr.buildSlice 22 1 [(0, .agg #[.int .i64 ax, .int .i64 ay, .int .i64 bx, .int .i64 by1, .int .i64 l, .int .i64 r])].toArray).run Try.prog w = .ok (.slice (some ⟨w.heap.size, 0, none⟩) 1 1) (w.alloc (.cells #[.int .i64 ax, .int .i64 ay, .int .i64 bx, .int .i64 by1, .int .i64 l, .int .i64 r] 27)) := by
  obtain ⟨ie, h1, h2⟩ := Option.map_eq_some_iff.1 sg_info
  have hz := congrArg (·.1) h2
  have hs : ie.size = 6 := congrArg (·.2.1) h2
  refine run_buildSlice w 22 27 1 _ _ ie _ Try.underlying22 h1 hz (by rw [hs]; decide) (by rw [hs]; decide) ?_
  rw [hs]; kernel_rfl
theorem rs1_run (ax ay bx by1 l r : Int) (w : World) : (Instr.buildSlice 33 1 [(0, .agg #[.int .i64 ax, .int .i64 ay, .int .i64 bx, .int .i64 by1, .int .i64 l, .int .i64 r])].toArray).run Try.prog w = .ok (.slice (some ⟨w.heap.size, 0, none⟩) 1 1) (w.alloc (.cells #[.int .i64 ax, .int .i64 ay, .int .i64 bx, .int .i64 by1, .int .i64 l, .int .i64 r] 30)) := by
  obtain ⟨ie, h1, h2⟩ := Option.map_eq_some_iff.1 rs_info
  have hz := congrArg (·.1) h2
  have hs : ie.size = 6 := congrArg (·.2.1) h2
  refine run_buildSlice w 33 30 1 _ _ ie _ Try.underlying33 h1 hz (by rw [hs]; decide) (by rw [hs]; decide) ?_
  rw [hs]; kernel_rfl
set_option maxHeartbeats 2000000 in
theorem refs17_own (L : List Sg) (v : Value) (w : World) (hL : Sgs w v L) (hl : L.length ≤ 1000000) :
    Calls Try.prog 16 #[v] w fun e w' => (∃ v', e = .returned v' ∧ OwnC w' w.heap.size 30 6 v' ((L).map sgC)) ∧ Below w.heap.size w w' := by
  obtain ⟨la, lc, lb, lo, rfl, llen, lget⟩ := hL.at
  have HG := Lib.hid lget
  clear hL lget
  obtain ⟨n, hn⟩ : ∃ n, n = L.length := ⟨_, rfl⟩
  rw [← hn] at llen
  rw [← hn]
  have HN := Lib.hid hn
  have hn9 : (n : Int) ≤ 9223372036854775807 := by omega
  rw [← hn] at hl
  have HL := Lib.hid hl
  clear hn llen hl
  go_enter Try.func16, Try.ntmps16
  go_wp2_with fail
  go_loopw [3, 8] (fun l i wr => ∃ k : Nat, k ≤ n ∧ i = .int .i64 (k : Int) ∧ OwnC wr w.heap.size 30 6 l (((L).map sgC).take k) ∧ Below w.heap.size w wr) (fun _ i _ => n - (intOf i).toNat)
  case atStart => exact ⟨0, by omega, rfl, ownC_nil _ _ _ _, bq_refl _⟩
  case round =>
    obtain ⟨k, hk, rfl, hown, hbel⟩ := hrel
    by_cases hlt : k < n
    · obtain ⟨rfl, he⟩ := HG.out k (by have := HN.out; omega)
      have RE := he.keep hbel
      have ltL := RE.lt
      have HT : Hid (((L).map sgC).take (k + 1) = ((L).map sgC).take k ++ [sgC (L[k]'(by have := HN.out; omega))]) := Lib.hid (by
        rw [List.take_succ_eq_append_getElem (by simp; have := HN.out; omega)]
        simp)
      have HLE : Hid ((((L).map sgC).take k).length ≤ 1000000) := Lib.hid (by rw [List.length_take]; have := HL.out; omega)
      have OM := hown.m
      have SM : SzM wr w.heap.size wr.heap.size := ⟨Nat.le_refl _⟩
      have hsz : w.heap.size ≤ wr.heap.size := hbel.size
      clear he HG
      generalize L[k]'(by have := HN.out; omega) = s at *
      generalize ((L).map sgC).take k = us at *
      have HB := Lib.hid hbel
      have i1 : (0 : Int) ≤ (k : Int) := by omega
      have i2 : (k : Int) < (n : Int) := by omega
      clear hbel hown
      go_upto_region 5 with (go_big_may; first
        | (refine wpList_load_mid rfl 27 _ rfl lb (lo + k * 6) rfl [.int .i64 s.ax, .int .i64 s.ay, .int .i64 s.bx, .int .i64 s.by1, .int .i64 s.l, .int .i64 s.r] _ RE.rg Try.underlying27 rfl szSg ?_)
        | (refine wl_alloc 27 _ zeSg rfl rfl ?_; intro W21 bs Bs_21 l21 k21; have gs : wr.heap.size ≤ bs := l21; have los := Nat.le_trans SM.le l21; have Oe_21 := RE.keep k21; have Ov_21 := OM.keep k21; have Om_21 := SM.keep k21; have Hw21 := k21; clear l21 k21 RE OM SM)
        | (refine wl_store 27 6 szSg _ _ rfl rfl _ rfl #[.int .i64 s.ax, .int .i64 s.ay, .int .i64 s.bx, .int .i64 s.by1, .int .i64 s.l, .int .i64 s.r] rfl _ _ Bs_21 rfl rfl (by kernel_rfl) ?_; intro W22 Bs_22 T22; have Oe_22 := Oe_21.turned T22 (Nat.ne_of_lt (Nat.lt_of_lt_of_le ltL gs)); have Ov_22 := Ov_21.turned T22 (Or.inr los); have Om_22 := Om_21.turned T22 (Or.inr los); have Hw22 := T22.below Hw21 gs; clear T22 Oe_21 Ov_21 Om_21 Bs_21 Hw21))
      go_wp2_with (first
        | (refine wl_load 27 6 _ Try.underlying27 rfl szSg _ rfl rfl _ rfl _ _ Bs_22 rfl ?_)
        | (refine wlg_slice 33 30 1 #[.int .i64 s.ax, .int .i64 s.ay, .int .i64 s.bx, .int .i64 s.by1, .int .i64 s.l, .int .i64 s.r] [(0, .agg #[.int .i64 s.ax, .int .i64 s.ay, .int .i64 s.bx, .int .i64 s.by1, .int .i64 s.l, .int .i64 s.r])] (rs1_run s.ax s.ay s.bx s.by1 s.l s.r) _ rfl rfl rfl ?_; intro W23 bn Bn_23 l23 k23; have gn : wr.heap.size ≤ bn := Nat.le_trans Hw22.size l23; have nsn : bs ≠ bn := Nat.ne_of_lt (Nat.lt_of_lt_of_le Bs_22.lt l23); have lon := Nat.le_trans Om_22.le l23; have Bs_23 := Bs_22.keep k23; have Oe_23 := Oe_22.keep k23; have Ov_23 := Ov_22.keep k23; have Om_23 := Om_22.keep k23; have Hw23 := bq_trans Hw22 k23; clear l23 k23 Bs_22 Oe_22 Ov_22 Om_22 Hw22)
        | (refine wl_appC 33 30 6 _ Try.underlying33 rs_info rfl (by decide) _ _ rfl rfl w.heap.size _ rfl us Ov_23.1 bn 1 _ _ rfl Bn_23 rfl (by kernel_rfl) HLE.out (Nat.le_trans hsz Om_23.le) ?_; intro vn W24 hO k24 hgr hat; have Hwn := Hw23))
      go_roundw
      case rel => exact ⟨k + 1, by omega, by go_num, by rw [HT.out]; exact hO, (bq_trans HB.out Hwn).trans k24⟩
      case measure => simp [intOf]; omega
    · have hkn : k = n := by omega
      have HB := Lib.hid hbel
      have HO : Hid (OwnC wr w.heap.size 30 6 _ ((L).map sgC)) := Lib.hid (by have h := hown; rw [List.take_of_length_le (by simp; have := HN.out; omega)] at h; exact h)
      clear hown hbel
      subst hkn
      go_wp2_with fail
      go_ret
      exact ⟨⟨_, rfl, HO.out⟩, HB.out⟩
set_option maxHeartbeats 2000000 in
theorem alldown17_own (L : List Sg) (v : Value) (w : World) (hL : Sgs w v L) (hl : L.length ≤ 1000000) :
    Calls Try.prog 33 #[v] w fun e w' => (∃ v', e = .returned v' ∧ OwnC w' w.heap.size 27 6 v' ((L.map dnS).map sgC)) ∧ Below w.heap.size w w' := by
  obtain ⟨la, lc, lb, lo, rfl, llen, lget⟩ := hL.at
  have HG := Lib.hid lget
  clear hL lget
  obtain ⟨n, hn⟩ : ∃ n, n = L.length := ⟨_, rfl⟩
  rw [← hn] at llen
  rw [← hn]
  have HN := Lib.hid hn
  have hn9 : (n : Int) ≤ 9223372036854775807 := by omega
  rw [← hn] at hl
  have HL := Lib.hid hl
  clear hn llen hl
  go_enter Try.func33, Try.ntmps33
  go_wp2_with fail
  go_loopw [3, 8] (fun l i wr => ∃ k : Nat, k ≤ n ∧ i = .int .i64 (k : Int) ∧ OwnC wr w.heap.size 27 6 l (((L.map dnS).map sgC).take k) ∧ Below w.heap.size w wr) (fun _ i _ => n - (intOf i).toNat)
  case atStart => exact ⟨0, by omega, rfl, ownC_nil _ _ _ _, bq_refl _⟩
  case round =>
    obtain ⟨k, hk, rfl, hown, hbel⟩ := hrel
    by_cases hlt : k < n
    · obtain ⟨rfl, he⟩ := HG.out k (by have := HN.out; omega)
      have RE := he.keep hbel
      have ltL := RE.lt
      have HT : Hid (((L.map dnS).map sgC).take (k + 1) = ((L.map dnS).map sgC).take k ++ [sgC (dnS (L[k]'(by have := HN.out; omega)))]) := Lib.hid (by
        rw [List.take_succ_eq_append_getElem (by simp; have := HN.out; omega)]
        simp)
      have HLE : Hid ((((L.map dnS).map sgC).take k).length ≤ 1000000) := Lib.hid (by rw [List.length_take]; have := HL.out; omega)
      have OM := hown.m
      have SM : SzM wr w.heap.size wr.heap.size := ⟨Nat.le_refl _⟩
      have hsz : w.heap.size ≤ wr.heap.size := hbel.size
      clear he HG
      generalize L[k]'(by have := HN.out; omega) = s at *
      generalize ((L.map dnS).map sgC).take k = us at *
      have HB := Lib.hid hbel
      have i1 : (0 : Int) ≤ (k : Int) := by omega
      have i2 : (k : Int) < (n : Int) := by omega
      clear hbel hown
      have H4 := Lib.hid fun W => down_any s W
      generalize dnS s = d at *
      go_upto_region 5 with (go_big_may; first
        | (refine wpList_load_mid rfl 27 _ rfl lb (lo + k * 6) rfl [.int .i64 s.ax, .int .i64 s.ay, .int .i64 s.bx, .int .i64 s.by1, .int .i64 s.l, .int .i64 s.r] _ RE.rg Try.underlying27 rfl szSg ?_)
        | (refine wl_alloc 27 _ zeSg rfl rfl ?_; intro W21 bs Bs_21 l21 k21; have gs : wr.heap.size ≤ bs := l21; have los := Nat.le_trans SM.le l21; have Oe_21 := RE.keep k21; have Ov_21 := OM.keep k21; have Om_21 := SM.keep k21; have Hw21 := k21; clear l21 k21 RE OM SM)
        | (refine wl_store 27 6 szSg _ _ rfl rfl _ rfl #[.int .i64 s.ax, .int .i64 s.ay, .int .i64 s.bx, .int .i64 s.by1, .int .i64 s.l, .int .i64 s.r] rfl _ _ Bs_21 rfl rfl (by kernel_rfl) ?_; intro W22 Bs_22 T22; have Oe_22 := Oe_21.turned T22 (Nat.ne_of_lt (Nat.lt_of_lt_of_le ltL gs)); have Ov_22 := Ov_21.turned T22 (Or.inr los); have Om_22 := Om_21.turned T22 (Or.inr los); have Hw22 := T22.below Hw21 gs; clear T22 Oe_21 Ov_21 Om_21 Bs_21 Hw21))
      go_wp2_with (first
        | (refine wl_load 27 6 _ Try.underlying27 rfl szSg _ rfl rfl _ rfl _ _ Bs_22 rfl ?_)
        | (go_at_call 29; (with_reducible refine (H4.out _).mono ?_); rintro e W23 ⟨rfl, k23⟩; have Bs_23 := Bs_22.keep k23; have Oe_23 := Oe_22.keep k23; have Ov_23 := Ov_22.keep k23; have Om_23 := Om_22.keep k23; have Hw23 := bq_trans Hw22 k23; clear k23 Bs_22 Oe_22 Ov_22 Om_22 Hw22)
        | (refine wlg_slice 22 27 1 #[.int .i64 d.ax, .int .i64 d.ay, .int .i64 d.bx, .int .i64 d.by1, .int .i64 d.l, .int .i64 d.r] [(0, .agg #[.int .i64 d.ax, .int .i64 d.ay, .int .i64 d.bx, .int .i64 d.by1, .int .i64 d.l, .int .i64 d.r])] (sg1_run d.ax d.ay d.bx d.by1 d.l d.r) _ rfl rfl rfl ?_; intro W24 bn Bn_24 l24 k24; have gn : wr.heap.size ≤ bn := Nat.le_trans Hw23.size l24; have nsn : bs ≠ bn := Nat.ne_of_lt (Nat.lt_of_lt_of_le Bs_23.lt l24); have lon := Nat.le_trans Om_23.le l24; have Bs_24 := Bs_23.keep k24; have Oe_24 := Oe_23.keep k24; have Ov_24 := Ov_23.keep k24; have Om_24 := Om_23.keep k24; have Hw24 := bq_trans Hw23 k24; clear l24 k24 Bs_23 Oe_23 Ov_23 Om_23 Hw23)
        | (refine wl_appC 22 27 6 _ Try.underlying22 sg_info rfl (by decide) _ _ rfl rfl w.heap.size _ rfl us Ov_24.1 bn 1 _ _ rfl Bn_24 rfl (by kernel_rfl) HLE.out (Nat.le_trans hsz Om_24.le) ?_; intro vn W25 hO k25 hgr hat; have Hwn := Hw24))
      go_roundw
      case rel => exact ⟨k + 1, by omega, by go_num, by rw [HT.out]; exact hO, (bq_trans HB.out Hwn).trans k25⟩
      case measure => simp [intOf]; omega
    · have hkn : k = n := by omega
      have HB := Lib.hid hbel
      have HO : Hid (OwnC wr w.heap.size 27 6 _ ((L.map dnS).map sgC)) := Lib.hid (by have h := hown; rw [List.take_of_length_le (by simp; have := HN.out; omega)] at h; exact h)
      clear hown hbel
      subst hkn
      go_wp2_with fail
      go_ret
      exact ⟨⟨_, rfl, HO.out⟩, HB.out⟩
theorem alldown17_any (L : List Sg) (v : Value) (w : World) (hL : Sgs w v L) (hl : L.length ≤ 1000000) :
    Calls Try.prog 33 #[v] w fun e w' => (∃ v', e = .returned v' ∧ Sgs w' v' (L.map dnS)) ∧ Below w.heap.size w w' :=
  (alldown17_own L v w hL hl).mono fun e w' ⟨⟨v', h1, h2⟩, hb⟩ => ⟨⟨v', h1, h2.sgs⟩, hb⟩
end Go.Proofs.Ytgopaajmbifbaaa
