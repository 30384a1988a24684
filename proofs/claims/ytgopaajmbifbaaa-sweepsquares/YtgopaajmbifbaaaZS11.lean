import Derived.Test.YtgopaajmbifbaaaZS10
import Derived.Test.YtgopaajmbifbaaaZS0
import Derived.Test.YtgopaajmbifbaaaZS2
import Derived.Laws.AppendOwn
import Derived.OwnWalk
import Derived.Deep.OwnRows
import Derived.Laws.MakeOwn
import Derived.KernelRfl
import Derived.ChangeKeysEq
namespace Go.Proofs.Ytgopaajmbifbaaa
open Go.RowKit
set_option linter.unusedVariables false
set_option linter.unusedSimpArgs false
set_option maxRecDepth 100000
instance : Inhabited Sg := ⟨⟨0, 0, 0, 0, 0, 0⟩⟩
section
variable {H : Type} {enc : TypeId × Value → H} {w : World} {base : Nat} {spare : Nat → Bool} {held : Bool}
theorem cell1_17 : Try.prog.cellsOf 3 = 1 := by kernel_rfl
theorem cellP_17 : Try.prog.cellsOf 25 = 2 := by kernel_rfl
theorem cellS_17 : Try.prog.cellsOf 27 = 6 := by kernel_rfl
theorem int_of17 {n : Nat} {v : Value} {y : DataW H × List MemPlace} (h : DataW.trod enc Try.prog w base spare held n 3 [v] = some y) : ∃ z, v = .int .i64 z := by
  obtain ⟨z, hz, _, hw⟩ := DataW.trod_int Try.underlying3 h
  simp only [List.cons.injEq, and_true] at hz
  exact ⟨z, hz⟩
theorem pt_of17 {n : Nat} {u v : Value} {y : DataW H × List MemPlace} (h : DataW.trod enc Try.prog w base spare held n 25 [u, v] = some y) : ∃ a b, u = .int .i64 a ∧ v = .int .i64 b := by
  obtain ⟨xs, m, _, _, _, hxl, hx⟩ := DataW.trod_struct Try.underlying25 h
  match xs, hxl with
  | [x0, x1], _ =>
    have g0 : DataW.trod enc Try.prog w base spare held m 3 (([u, v].drop 0).take (Try.prog.cellsOf 3)) = some x0 := hx 0 _ rfl
    have g1 : DataW.trod enc Try.prog w base spare held m 3 (([u, v].drop 1).take (Try.prog.cellsOf 3)) = some x1 := hx 1 _ rfl
    rw [cell1_17] at g0 g1
    obtain ⟨a, ha⟩ := int_of17 (v := u) g0
    obtain ⟨b, hb⟩ := int_of17 (v := v) g1
    exact ⟨a, b, ha, hb⟩
theorem sg_of {n : Nat} {cs : List Value} {y : DataW H × List MemPlace} (hl : cs.length = 6) (h : DataW.trod enc Try.prog w base spare held n 27 cs = some y) : ∃ s, cs = sgC s := by
  obtain ⟨xs, m, _, _, _, hxl, hx⟩ := DataW.trod_struct Try.underlying27 h
  match cs, hl with
  | [c0, c1, c2, c3, c4, c5], _ =>
    match xs, hxl with
    | [x0, x1, x2, x3], _ =>
      have g0 : DataW.trod enc Try.prog w base spare held m 25 (([c0, c1, c2, c3, c4, c5].drop 0).take (Try.prog.cellsOf 25)) = some x0 := hx 0 _ rfl
      have g1 : DataW.trod enc Try.prog w base spare held m 25 (([c0, c1, c2, c3, c4, c5].drop 2).take (Try.prog.cellsOf 25)) = some x1 := hx 1 _ rfl
      have g2 : DataW.trod enc Try.prog w base spare held m 3 (([c0, c1, c2, c3, c4, c5].drop 4).take (Try.prog.cellsOf 3)) = some x2 := hx 2 _ rfl
      have g3 : DataW.trod enc Try.prog w base spare held m 3 (([c0, c1, c2, c3, c4, c5].drop 5).take (Try.prog.cellsOf 3)) = some x3 := hx 3 _ rfl
      rw [cellP_17] at g0 g1
      rw [cell1_17] at g2 g3
      obtain ⟨a, b, rfl, rfl⟩ := pt_of17 (u := c0) (v := c1) g0
      obtain ⟨c, d, rfl, rfl⟩ := pt_of17 (u := c2) (v := c3) g1
      obtain ⟨e, rfl⟩ := int_of17 (v := c4) g2
      obtain ⟨f, rfl⟩ := int_of17 (v := c5) g3
      exact ⟨⟨a, b, c, d, e, f⟩, rfl⟩
theorem sgs_of {n : Nat} {sv : Value} {y : DataW H × List MemPlace} (h : DataW.trod enc Try.prog w base spare held n 22 [sv] = some y) : ∃ L, Sgs w sv L :=
  sl_of_trod (α := Sg) (R := fun _ cs s => cs = sgC s) Try.underlying22 cellS_17 (fun n cs y hl h => sg_of hl h) h (by omega)
end
def sumF (f : Nat → Int) : Nat → Int
  | 0 => 0
  | n + 1 => sumF f n + f n
theorem sumF_add (f g : Nat → Int) : ∀ n, sumF (fun i => f i + g i) n = sumF f n + sumF g n
  | 0 => rfl
  | n + 1 => by simp only [sumF]; rw [sumF_add f g n]; omega
theorem sumF_zero : ∀ n, sumF (fun _ => 0) n = 0
  | 0 => rfl
  | n + 1 => by simp only [sumF]; rw [sumF_zero n]; rfl
theorem sumF_at (l c : Int) (h : 0 ≤ l) : ∀ n : Nat, sumF (fun i => if l = (i : Int) then c else 0) n = if l < (n : Int) then c else 0
  | 0 => by simp only [sumF]; split <;> omega
  | n + 1 => by
    simp only [sumF]
    rw [sumF_at l c h n]
    repeat' split
    all_goals omega
theorem sumF_bd (f : Nat → Int) (m : Int) (h : ∀ i, -m ≤ f i ∧ f i ≤ m) : ∀ n : Nat, -(m * n) ≤ sumF f n ∧ sumF f n ≤ m * n
  | 0 => by simp [sumF]
  | n + 1 => by
    have h1 := sumF_bd f m h n
    have h2 := h n
    simp only [sumF]
    rw [show m * ((n + 1 : Nat) : Int) = m * (n : Int) + m by push_cast; rw [Int.mul_add, Int.mul_one]]
    omega
theorem sum_wnd1 (s : Sg) (x y : Int) : sumF (fun st => wnd1 s (st : Int) x y) 256 = 0 := by
  by_cases hr : rgtS s = true
  · have hd := rgtS_dn s
    rw [hr] at hd
    have hb := (rgtS_bd hd).2.2
    by_cases hc : (crsS (dnS s) y && lftS (dnS s) x y) = true
    · have e : (fun st : Nat => wnd1 s (st : Int) x y) = fun st : Nat => (if (dnS s).l = (st : Int) then 1 else 0) + (if (dnS s).r = (st : Int) then -1 else 0) := by
        funext st
        rw [wnd1, if_pos hr, wndS, if_pos hc, sd]
      rw [e, sumF_add, sumF_at _ _ hb.1.1, sumF_at _ _ hb.2.1, if_pos (by omega), if_pos (by omega)]
      rfl
    · have e : (fun st : Nat => wnd1 s (st : Int) x y) = fun _ => 0 := by
        funext st
        rw [wnd1, if_pos hr, wndS, if_neg hc]
      rw [e, sumF_zero]
  · have e : (fun st : Nat => wnd1 s (st : Int) x y) = fun _ => 0 := by
      funext st
      rw [wnd1, if_neg hr]
    rw [e, sumF_zero]
theorem sum_wnd (x y : Int) : ∀ L : List Sg, sumF (fun st => wnd L (st : Int) x y) 256 = 0
  | [] => by
    have e : (fun st : Nat => wnd [] (st : Int) x y) = fun _ => 0 := by
      funext st
      rfl
    rw [e, sumF_zero]
  | s :: L => by
    have e : (fun st : Nat => wnd (s :: L) (st : Int) x y) = fun st : Nat => wnd1 s (st : Int) x y + wnd L (st : Int) x y := by
      funext st
      rfl
    rw [e, sumF_add, sum_wnd1, sum_wnd x y L]
    rfl
def wv (L : List Sg) (x y st : Int) : Int := if smpB x && smpB y then wnd L st x y else 0
theorem wv_bd (L : List Sg) (x y st : Int) : -(L.length : Int) ≤ wv L x y st ∧ wv L x y st ≤ (L.length : Int) := by
  unfold wv
  split
  · exact wnd_bd st x y L
  · omega
theorem sum_wv (L : List Sg) (x y : Int) : sumF (fun st => wv L x y (st : Int)) 256 = 0 := by
  by_cases h : (smpB x && smpB y) = true
  · have e : (fun st : Nat => wv L x y (st : Int)) = fun st : Nat => wnd L (st : Int) x y := by
      funext st
      rw [wv, if_pos h]
    rw [e, sum_wnd]
  · have e : (fun st : Nat => wv L x y (st : Int)) = fun _ => 0 := by
      funext st
      rw [wv, if_neg h]
    rw [e, sumF_zero]
set_option maxHeartbeats 2000000 in
theorem sums17_many (a : Option Addr) (n c : Nat) (x y : Int) (w : World) (h : (300 : Int) < (n : Int)) :
    Calls Try.prog 6 #[.slice a n c, .int .i64 x, .int .i64 y] w fun e w' => e = .returned (.bool true) ∧ Below w.heap.size w w' := by
  go_enter Try.func6, Try.ntmps6
  go_wp2_with (first
    | (go_at_call 11; (with_reducible refine (awake17_any _).mono ?_); rintro e W1 ⟨rfl, k1⟩; have Hw1 := k1; clear k1))
  go_ret
  exact ⟨rfl, Hw1⟩
set_option maxHeartbeats 2000000 in
theorem sums17_few (L : List Sg) (v : Value) (x y : Int) (w : World) (hL : Sgs w v L) (hl : L.length ≤ 300) :
    Calls Try.prog 6 #[v, .int .i64 x, .int .i64 y] w fun e w' => e = .returned (.bool true) ∧ Below w.heap.size w w' := by
  have HWO : Hid (∀ (e : Int) (W : World), Below w.heap.size w W → Calls Try.prog 17 #[v, .int .i64 e, .int .i64 x, .int .i64 y] W fun e' w' => e' = .returned (.int .i64 (wv L x y e)) ∧ Below W.heap.size W w') := Lib.hid fun e W hW => wound_any L v e x y W (hL.keep hW)
  obtain ⟨la, lc, lb, lo, rfl, llen, lget⟩ := hL.at
  have HG := Lib.hid lget
  clear hL lget
  obtain ⟨n, hn⟩ : ∃ n, n = L.length := ⟨_, rfl⟩
  rw [← hn] at llen
  rw [← hn]
  have HN := Lib.hid hn
  have hn9 : (n : Int) ≤ 9223372036854775807 := by omega
  rw [← hn] at hl
  rw [← HN.out] at HWO
  have hn3 : (n : Int) ≤ 300 := by omega
  clear hn llen hl
  have HBD : Hid (∀ k : Nat, k ≤ 256 → -100000 ≤ sumF (fun st => wv L x y (st : Int)) k ∧ sumF (fun st => wv L x y (st : Int)) k ≤ 100000) := Lib.hid fun k hk => by
    have h1 := sumF_bd (fun st : Nat => wv L x y (st : Int)) 300 (fun i => by
      have h2 := wv_bd L x y (i : Int)
      have h3 := HN.out
      constructor <;> omega) k
    omega
  clear HG
  go_enter Try.func6, Try.ntmps6
  go_wp2_with fail
  go_loopw [7, 8] (fun t i wr => ∃ k : Nat, k ≤ 256 ∧ i = .int .i64 (k : Int) ∧ t = .int .i64 (sumF (fun st => wv L x y (st : Int)) k) ∧ Below w.heap.size w wr) (fun _ i _ => 256 - (intOf i).toNat)
  case atStart => exact ⟨0, by omega, rfl, rfl, bq_refl _⟩
  case round =>
    obtain ⟨k, hk, rfl, rfl, hbel⟩ := hrel
    by_cases hlt : k < 256
    · have HB := Lib.hid hbel
      have HK : Hid (sumF (fun st => wv L x y (st : Int)) (k + 1) = sumF (fun st => wv L x y (st : Int)) k + wv L x y (k : Int)) := Lib.hid rfl
      have t0 : -100000 ≤ sumF (fun st => wv L x y (st : Int)) k := (HBD.out k hk).1
      have t1 : sumF (fun st => wv L x y (st : Int)) k ≤ 100000 := (HBD.out k hk).2
      have v0 : -300 ≤ wv L x y (k : Int) := by have := (wv_bd L x y (k : Int)).1; have := HN.out; omega
      have v1 : wv L x y (k : Int) ≤ 300 := by have := (wv_bd L x y (k : Int)).2; have := HN.out; omega
      have HWK := Lib.hid (HWO.out (k : Int))
      generalize wv L x y (k : Int) = V at *
      generalize sumF (fun st => wv L x y (st : Int)) k = T at *
      have i1 : (0 : Int) ≤ (k : Int) := by omega
      have i2 : (k : Int) < 256 := by omega
      clear hbel HWO HBD
      go_wp2_with (first
        | (go_at_call 17; (with_reducible refine (HWK.out _ HB.out).mono ?_); rintro e W21 ⟨rfl, k21⟩; have Hw21 := k21; clear k21))
      go_roundw
      case rel => exact ⟨k + 1, by omega, by go_num, congrArg (Value.int .i64) HK.out.symm, bq_trans HB.out Hw21⟩
      case measure => simp [intOf]; omega
    · have hkn : k = 256 := by omega
      have HB := Lib.hid hbel
      have HA : sumF (fun st => wv L x y (st : Int)) k = 0 := by rw [hkn]; exact sum_wv L x y
      generalize sumF (fun st => wv L x y (st : Int)) k = T at *
      subst hkn
      subst HA
      clear hbel HBD HWO
      go_wp2_with (first
        | (go_at_call 11; (with_reducible refine (awake17_any _).mono ?_); rintro e W41 ⟨rfl, k41⟩; have Hw41 := k41; clear k41))
      go_ret
      exact ⟨rfl, bq_trans HB.out Hw41⟩
theorem sums17_walk (L : List Sg) (v : Value) (x y : Int) (w : World) (hL : Sgs w v L) :
    Calls Try.prog 6 #[v, .int .i64 x, .int .i64 y] w fun e w' => e = .returned (.bool true) ∧ Below w.heap.size w w' := by
  by_cases hl : L.length ≤ 300
  · exact sums17_few L v x y w hL hl
  · obtain ⟨la, lc, lb, lo, rfl, llen, lget⟩ := hL.at
    exact sums17_many la L.length lc x y w (by omega)
set_option maxHeartbeats 2000000 in
theorem winds17_many (a : Option Addr) (n c : Nat) (st x y : Int) (w : World) (h : (300 : Int) < (n : Int)) :
    Calls Try.prog 3 #[.slice a n c, .int .i64 st, .int .i64 x, .int .i64 y] w fun e w' => e = .returned (.bool true) ∧ Below w.heap.size w w' := by
  go_enter Try.func3, Try.ntmps3
  go_wp2_with (first
    | (go_at_call 11; (with_reducible refine (awake17_any _).mono ?_); rintro e W1 ⟨rfl, k1⟩; have Hw1 := k1; clear k1))
  go_ret
  exact ⟨rfl, Hw1⟩
set_option maxHeartbeats 4000000 in
theorem winds17_few (L : List Sg) (v : Value) (st x y : Int) (w : World) (hL : Sgs w v L) (hl : L.length ≤ 300) :
    Calls Try.prog 3 #[v, .int .i64 st, .int .i64 x, .int .i64 y] w fun e w' => e = .returned (.bool true) ∧ Below w.heap.size w w' := by
  have HWO : Hid (∀ (e : Int) (W : World), Below w.heap.size w W → Calls Try.prog 17 #[v, .int .i64 e, .int .i64 x, .int .i64 y] W fun e' w' => e' = .returned (.int .i64 (wv L x y e)) ∧ Below W.heap.size W w') := Lib.hid fun e W hW => wound_any L v e x y W (hL.keep hW)
  have HRF : Hid (∀ W, Below w.heap.size w W → Calls Try.prog 16 #[v] W fun e w' => (∃ v', e = .returned v' ∧ Sgs w' v' L) ∧ Below W.heap.size W w') := Lib.hid fun W hW => refs17_any L v W (hL.keep hW) (by omega)
  obtain ⟨la, lc, lb, lo, rfl, llen, lget⟩ := hL.at
  have HG := Lib.hid lget
  clear hL lget
  obtain ⟨n, hn⟩ : ∃ n, n = L.length := ⟨_, rfl⟩
  rw [← hn] at llen
  rw [← hn]
  have HN := Lib.hid hn
  have hn9 : (n : Int) ≤ 9223372036854775807 := by omega
  rw [← hn] at hl
  rw [← HN.out] at HWO HRF
  have hn3 : (n : Int) ≤ 300 := by omega
  clear hn llen hl
  have HWS := Lib.hid (HWO.out st)
  clear HWO
  go_enter Try.func3, Try.ntmps3
  go_wp2_with fail
  go_loopw [18] (fun i wr => ∃ k : Nat, k ≤ n ∧ i = .int .i64 (k : Int) ∧ Below w.heap.size w wr) (fun i _ => n - (intOf i).toNat)
  case atStart => exact ⟨0, by omega, rfl, bq_refl _⟩
  case round =>
    obtain ⟨k, hk, rfl, hbel⟩ := hrel
    by_cases hlt : k < n
    · obtain ⟨rfl, he⟩ := HG.out k (by have := HN.out; omega)
      have RE := he.keep hbel
      have ltL := RE.lt
      clear he HG HWS HRF
      generalize L[k]'(by have := HN.out; omega) = s at *
      have HB := Lib.hid hbel
      have i1 : (0 : Int) ≤ (k : Int) := by omega
      have i2 : (k : Int) < (n : Int) := by omega
      clear hbel
      have H1 := Lib.hid fun W => right17_any s W
      have H2 := Lib.hid fun W => rright17_any s W
      cases q : rgtS s with
      | false =>
        rw [q] at H1 H2
        clear q
        go_upto_region 6 with (go_big_may; first
          | (refine wpList_load_mid rfl 27 _ rfl lb (lo + k * 6) rfl [.int .i64 s.ax, .int .i64 s.ay, .int .i64 s.bx, .int .i64 s.by1, .int .i64 s.l, .int .i64 s.r] _ RE.rg Try.underlying27 rfl szSg ?_)
          | (refine wl_alloc 27 _ zeSg rfl rfl ?_; intro W21 bs Bs_21 l21 k21; have gs : wr.heap.size ≤ bs := l21; have Oe_21 := RE.keep k21; have Hw21 := k21; clear l21 k21 RE)
          | (refine wl_store 27 6 szSg _ _ rfl rfl _ rfl #[.int .i64 s.ax, .int .i64 s.ay, .int .i64 s.bx, .int .i64 s.by1, .int .i64 s.l, .int .i64 s.r] rfl _ _ Bs_21 rfl rfl (by kernel_rfl) ?_; intro W22 Bs_22 T22; have Oe_22 := Oe_21.turned T22 (Nat.ne_of_lt (Nat.lt_of_lt_of_le ltL gs)); have Hw22 := T22.below Hw21 gs; clear T22 Oe_21 Bs_21 Hw21))
        refine Det.wp_region_det (S := fun w' => Below W22.heap.size W22 w') (by kernel_rfl) (by kernel_rfl) (bq_drew (bq_refl _)) ?_
        refine Det.det_load 27 6 _ Try.underlying27 rfl szSg _ rfl (by rfl) _ rfl _ _ (fun w hS => Bs_22.keep hS) rfl ?_
        try simp only [Act.put, List.setIfInBounds_toArray, List.set_cons_zero, List.set_cons_succ]
        refine Det.det_call (f := 12) (args := #[.agg #[.int .i64 s.ax, .int .i64 s.ay, .int .i64 s.bx, .int .i64 s.by1, .int .i64 s.l, .int .i64 s.r]]) (v := .bool false) (by rfl) ?_ (fun w hS => (H1.out w).mono fun e w' ⟨h1, h2⟩ => ⟨h1, bq_trans hS h2⟩) ?_
        · (intro w hSw; go_simp)
        try simp only [Act.put, List.setIfInBounds_toArray, List.set_cons_zero, List.set_cons_succ]
        refine Det.det_load 27 6 _ Try.underlying27 rfl szSg _ rfl (by rfl) _ rfl _ _ (fun w hS => Bs_22.keep hS) rfl ?_
        try simp only [Act.put, List.setIfInBounds_toArray, List.set_cons_zero, List.set_cons_succ]
        refine Det.det_call (f := 13) (args := #[.agg #[.int .i64 s.ax, .int .i64 s.ay, .int .i64 s.bx, .int .i64 s.by1, .int .i64 s.l, .int .i64 s.r]]) (v := .bool false) (by rfl) ?_ (fun w hS => (H2.out w).mono fun e w' ⟨h1, h2⟩ => ⟨h1, bq_trans hS h2⟩) ?_
        · (intro w hSw; go_simp)
        try simp only [Act.put, List.setIfInBounds_toArray, List.set_cons_zero, List.set_cons_succ]
        refine Det.det_take (v := ?_) (by rfl) ?_ ?_
        rotate_left
        · (intro w hSw; have en : True := trivial; go_simp; try with_reducible rfl)
        try simp only [Act.put, List.setIfInBounds_toArray, List.set_cons_zero, List.set_cons_succ]
        refine Det.det_nil (fun W23 k23 => ?_)
        have Bs_23 := Bs_22.keep k23
        have Oe_23 := Oe_22.keep k23
        have Hw23 := bq_trans Hw22 k23
        clear k23 Bs_22 Oe_22 Hw22
        go_wp2_with fail
        go_roundw
        case rel => exact ⟨k + 1, by omega, by go_num, bq_trans HB.out Hw23⟩
        case measure => simp [intOf]; omega
      | true =>
        rw [q] at H1 H2
        clear q
        go_upto_region 6 with (go_big_may; first
          | (refine wpList_load_mid rfl 27 _ rfl lb (lo + k * 6) rfl [.int .i64 s.ax, .int .i64 s.ay, .int .i64 s.bx, .int .i64 s.by1, .int .i64 s.l, .int .i64 s.r] _ RE.rg Try.underlying27 rfl szSg ?_)
          | (refine wl_alloc 27 _ zeSg rfl rfl ?_; intro W21 bs Bs_21 l21 k21; have gs : wr.heap.size ≤ bs := l21; have Oe_21 := RE.keep k21; have Hw21 := k21; clear l21 k21 RE)
          | (refine wl_store 27 6 szSg _ _ rfl rfl _ rfl #[.int .i64 s.ax, .int .i64 s.ay, .int .i64 s.bx, .int .i64 s.by1, .int .i64 s.l, .int .i64 s.r] rfl _ _ Bs_21 rfl rfl (by kernel_rfl) ?_; intro W22 Bs_22 T22; have Oe_22 := Oe_21.turned T22 (Nat.ne_of_lt (Nat.lt_of_lt_of_le ltL gs)); have Hw22 := T22.below Hw21 gs; clear T22 Oe_21 Bs_21 Hw21))
        refine Det.wp_region_det (S := fun w' => Below W22.heap.size W22 w') (by kernel_rfl) (by kernel_rfl) (bq_drew (bq_refl _)) ?_
        refine Det.det_load 27 6 _ Try.underlying27 rfl szSg _ rfl (by rfl) _ rfl _ _ (fun w hS => Bs_22.keep hS) rfl ?_
        try simp only [Act.put, List.setIfInBounds_toArray, List.set_cons_zero, List.set_cons_succ]
        refine Det.det_call (f := 12) (args := #[.agg #[.int .i64 s.ax, .int .i64 s.ay, .int .i64 s.bx, .int .i64 s.by1, .int .i64 s.l, .int .i64 s.r]]) (v := .bool true) (by rfl) ?_ (fun w hS => (H1.out w).mono fun e w' ⟨h1, h2⟩ => ⟨h1, bq_trans hS h2⟩) ?_
        · (intro w hSw; go_simp)
        try simp only [Act.put, List.setIfInBounds_toArray, List.set_cons_zero, List.set_cons_succ]
        refine Det.det_load 27 6 _ Try.underlying27 rfl szSg _ rfl (by rfl) _ rfl _ _ (fun w hS => Bs_22.keep hS) rfl ?_
        try simp only [Act.put, List.setIfInBounds_toArray, List.set_cons_zero, List.set_cons_succ]
        refine Det.det_call (f := 13) (args := #[.agg #[.int .i64 s.ax, .int .i64 s.ay, .int .i64 s.bx, .int .i64 s.by1, .int .i64 s.l, .int .i64 s.r]]) (v := .bool true) (by rfl) ?_ (fun w hS => (H2.out w).mono fun e w' ⟨h1, h2⟩ => ⟨h1, bq_trans hS h2⟩) ?_
        · (intro w hSw; go_simp)
        try simp only [Act.put, List.setIfInBounds_toArray, List.set_cons_zero, List.set_cons_succ]
        refine Det.det_take (v := ?_) (by rfl) ?_ ?_
        rotate_left
        · (intro w hSw; have en : True := trivial; go_simp; try with_reducible rfl)
        try simp only [Act.put, List.setIfInBounds_toArray, List.set_cons_zero, List.set_cons_succ]
        refine Det.det_nil (fun W23 k23 => ?_)
        have Bs_23 := Bs_22.keep k23
        have Oe_23 := Oe_22.keep k23
        have Hw23 := bq_trans Hw22 k23
        clear k23 Bs_22 Oe_22 Hw22
        go_wp2_with fail
        go_roundw
        case rel => exact ⟨k + 1, by omega, by go_num, bq_trans HB.out Hw23⟩
        case measure => simp [intOf]; omega
    · have hkn : k = n := by omega
      have HB := Lib.hid hbel
      subst hkn
      clear hbel HG
      have H3 := Lib.hid fun W => odd_any x W
      have H4 := Lib.hid fun W => odd_any y W
      have HRW : Hid (smpB x = true → smpB y = true → ∀ (v' : Value) (W : World), Sgs W v' L → Calls Try.prog 15 #[v', .int .i64 st, .int .i64 x, .int .i64 y] W fun e w' => e = .returned (.int .i64 (wnd L st x y)) ∧ Below W.heap.size W w') := Lib.hid fun h1 h2 v' W hW => rwound_any L v' st x y W hW h1 h2
      have HV : Hid (wv L x y st = if smpB x && smpB y then wnd L st x y else 0) := Lib.hid rfl
      cases q1 : smpB x with
      | false =>
        have hv : wv L x y st = 0 := by rw [HV.out, q1]; rfl
        rw [hv] at HWS
        rw [q1] at H3
        clear HRW HV hv q1
        go_wp2_with (first
          | (go_at_call 14; (with_reducible refine (H3.out _).mono ?_); rintro e W61 ⟨rfl, k61⟩; have Hw61 := k61; clear k61)
          | (go_at_call 17; (with_reducible refine (HWS.out _ (bq_trans HB.out Hw61)).mono ?_); rintro e W62 ⟨rfl, k62⟩; have Hw62 := bq_trans Hw61 k62; clear k62 Hw61)
          | (go_at_call 11; (with_reducible refine (awake17_any _).mono ?_); rintro e W63 ⟨rfl, k63⟩; have Hw63 := bq_trans Hw62 k63; clear k63 Hw62))
        go_ret
        exact ⟨rfl, bq_trans HB.out Hw63⟩
      | true =>
        cases q2 : smpB y with
        | false =>
          have hv : wv L x y st = 0 := by rw [HV.out, q1, q2]; rfl
          rw [hv] at HWS
          rw [q1] at H3
          rw [q2] at H4
          clear HRW HV hv q1 q2
          go_wp2_with (first
            | (go_at_call 14; (with_reducible refine (H3.out _).mono ?_); rintro e W61 ⟨rfl, k61⟩; have Hw61 := k61; clear k61)
            | (go_at_call 14; (with_reducible refine (H4.out _).mono ?_); rintro e W62 ⟨rfl, k62⟩; have Hw62 := bq_trans Hw61 k62; clear k62 Hw61)
            | (go_at_call 17; (with_reducible refine (HWS.out _ (bq_trans HB.out Hw62)).mono ?_); rintro e W63 ⟨rfl, k63⟩; have Hw63 := bq_trans Hw62 k63; clear k63 Hw62)
            | (go_at_call 11; (with_reducible refine (awake17_any _).mono ?_); rintro e W64 ⟨rfl, k64⟩; have Hw64 := bq_trans Hw63 k64; clear k64 Hw63))
          go_ret
          exact ⟨rfl, bq_trans HB.out Hw64⟩
        | true =>
          have hv : wv L x y st = wnd L st x y := by rw [HV.out, q1, q2]; rfl
          rw [hv] at HWS
          rw [q1] at H3
          rw [q2] at H4
          have HRW := Lib.hid (HRW.out q1 q2)
          generalize wnd L st x y = V at *
          clear HV hv q1 q2
          go_wp2_with (first
            | (go_at_call 14; (with_reducible refine (H3.out _).mono ?_); rintro e W61 ⟨rfl, k61⟩; have Hw61 := k61; clear k61)
            | (go_at_call 14; (with_reducible refine (H4.out _).mono ?_); rintro e W62 ⟨rfl, k62⟩; have Hw62 := bq_trans Hw61 k62; clear k62 Hw61)
            | (go_at_call 16; (with_reducible refine (HRF.out _ (bq_trans HB.out Hw62)).mono ?_); rintro e W63 ⟨⟨v1, rfl, hS1⟩, k63⟩; have Hw63 := bq_trans Hw62 k63; have HS1 := Lib.hid hS1; clear hS1; clear k63 Hw62)
            | (go_at_call 15; (with_reducible refine (HRW.out v1 _ HS1.out).mono ?_); rintro e W64 ⟨rfl, k64⟩; have Hw64 := bq_trans Hw63 k64; clear k64 Hw63)
            | (go_at_call 17; (with_reducible refine (HWS.out _ (bq_trans HB.out Hw64)).mono ?_); rintro e W65 ⟨rfl, k65⟩; have Hw65 := bq_trans Hw64 k65; clear k65 Hw64)
            | (go_at_call 11; (with_reducible refine (awake17_any _).mono ?_); rintro e W66 ⟨rfl, k66⟩; have Hw66 := bq_trans Hw65 k66; clear k66 Hw65))
          go_ret
          exact ⟨rfl, bq_trans HB.out Hw66⟩
theorem winds17_walk (L : List Sg) (v : Value) (st x y : Int) (w : World) (hL : Sgs w v L) :
    Calls Try.prog 3 #[v, .int .i64 st, .int .i64 x, .int .i64 y] w fun e w' => e = .returned (.bool true) ∧ Below w.heap.size w w' := by
  by_cases hl : L.length ≤ 300
  · exact winds17_few L v st x y w hL hl
  · obtain ⟨la, lc, lb, lo, rfl, llen, lget⟩ := hL.at
    exact winds17_many la L.length lc st x y w (by omega)
end Go.Proofs.Ytgopaajmbifbaaa
namespace Go.Proofs.Ytgopaajmbifbaaa
open Go.RowKit
set_option linter.unusedVariables false
def iL (l : List Int) : List Value := l.map (Value.int .i64 ·)
theorem iL_app (l m : List Int) : iL l ++ iL m = iL (l ++ m) := by simp [iL]
theorem iL_len (l : List Int) : (iL l).length = l.length := by simp [iL]
theorem iL_at (l : List Int) (j : Nat) (v : Value) (h : (iL l)[j]? = some v) : ∃ hj : j < l.length, v = .int .i64 l[j] := by
  simp only [iL, List.getElem?_map, Option.map_eq_some_iff] at h
  obtain ⟨z, hz, rfl⟩ := h
  obtain ⟨hj, rfl⟩ := List.getElem?_eq_some_iff.1 hz
  exact ⟨hj, rfl⟩
def OwnI (w : World) (B : Nat) (v : Value) (l : List Int) : Prop := w.ownsRow B 3 1 v l.length (iL l)
theorem ownI_nil (w : World) (B : Nat) : OwnI w B (.slice none 0 0) [] := World.ownsRow_nil w B 3 1
theorem OwnI.ints {w : World} {B : Nat} {v : Value} {l : List Int} (h : OwnI w B v l) (hb : ∀ z ∈ l, -9223372036854775808 ≤ z ∧ z ≤ 9223372036854775807) : ∃ a b c, v = .slice a l.length c ∧ Ints w l a b 0 := by
  rcases h.2 with ⟨rfl, h0⟩ | ⟨g, cap, cur, rfl, _, h2, _, _, h5, h6⟩
  · have : l = [] := List.eq_nil_of_length_eq_zero h0
    subst this
    exact ⟨none, 0, 0, rfl, Or.inl rfl, fun i hi => absurd hi (by simp), fun i hi => absurd hi (by simp)⟩
  · refine ⟨_, g, cap, rfl, Or.inr rfl, fun i hi => hb _ (List.getElem_mem hi), fun i hi => ?_⟩
    have hB : Blk w g cur 3 := h2
    rw [Nat.zero_add, hB.cell i]
    have e : (cur.toList.take (l.length * 1))[i]? = some (.int .i64 l[i]) := by rw [h6]; simp [iL, hi]
    rw [List.getElem?_take_of_lt (by omega)] at e
    rw [← Array.getElem?_toList]
    exact e
theorem OwnI.keep {w w' : World} {B : Nat} {v : Value} {l : List Int} (h : OwnI w B v l) (k : Below w.heap.size w w') : OwnI w' B v l :=
  World.ownsRow.kept (row := none) h ⟨k.os, k.tape, k.output, k.size, fun i hi _ => k.block i hi⟩ (by cases hv : v.ownBlock <;> simp)
section
variable {ops : Array Oper} {rest : List Oper} {o : Oper} {a : Act} {w : World} {Q : Exit → Act → World → Prop}
theorem wl_appI (s x : Operand) (ho : o.op = .call { callee := .builtin .append, args := #[s, x], argTypes := #[37, 37] }) (hgd : o.guard = none)
    (B : Nat) (v : Value) (hs : a.eval s = v) (zs : List Int) (hown : OwnI w B v zs) (l : List Int) (g k c m : Nat) (hx : a.eval x = .slice (some ⟨g, k, none⟩) m c) (hm : l.length = m) (hI : ∀ i (h : i < l.length), w.cell? ⟨g, k + i, none⟩ = some (.int .i64 l[i]))
    (hn : zs.length + l.length ≤ 1000000) (hB : B ≤ w.heap.size)
    (h : ∀ v' w', OwnI w' B v' (zs ++ l) → Below B w w' → wpList Try.prog ops Q rest (a.put o.dst v') w') : wpList Try.prog ops Q (o :: rest) a w := by
  subst hm
  obtain ⟨i0, hi, h2⟩ := Option.map_eq_some_iff.1 int_info
  have hz0 : i0.zero = some (.int .i64 0) := congrArg (·.1) h2
  have hz1 : i0.size = 1 := congrArg (·.2.1) h2
  have hz2 : i0.bytes = 8 := congrArg (·.2.2) h2
  refine wpList_append_own _ hgd s x 37 ho B 3 i0 (.int .i64 0) 1 8 Try.underlying37 hi hz0 hz1 hz2 rfl (by decide) v zs.length (iL zs) hs hown ⟨g, k, none⟩ l.length c (iL l) hx (by rw [iL_len]; omega) ?_ ?_ ?_ ?_ hB ?_
  · intro j u hj
    obtain ⟨hj2, rfl⟩ := iL_at l j u hj
    rw [Addr.add_mid]
    exact hI j hj2
  · intro u hu
    simp only [iL, List.mem_map] at hu
    obtain ⟨z, _, rfl⟩ := hu
    rfl
  · unfold maxLen; omega
  · omega
  · intro v' w' h1 h2 _
    have h1' : OwnI w' B v' (zs ++ l) := by
      unfold OwnI
      rw [← iL_app, List.length_append]
      exact h1
    exact h v' w' h1' ⟨h2.os, h2.tape, h2.output, h2.size, fun i hi => h2.block i (by omega) (by
      intro e
      have := (World.ownsRow.lt hown i e.symm).1
      omega)⟩
end
theorem cells3 : Try.prog.cellsOf 3 = 1 := by kernel_rfl
end Go.Proofs.Ytgopaajmbifbaaa
