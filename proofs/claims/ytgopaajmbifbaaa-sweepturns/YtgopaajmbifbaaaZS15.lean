import Derived.Test.YtgopaajmbifbaaaZS11
namespace Go.Proofs.Ytgopaajmbifbaaa
open Go.RowKit
set_option linter.unusedVariables false
set_option linter.unusedSimpArgs false
set_option maxRecDepth 100000
set_option maxHeartbeats 2000000 in
theorem turns17_many (la : Option Addr) (n lc : Nat) (t x y : Int) (w : World) (h : (40 : Int) < (n : Int) ∨ (n : Int) ≤ 40 ∧ 8 < x ∨ (n : Int) ≤ 40 ∧ x ≤ 8 ∧ 8 < y) :
    Calls Try.prog 7 #[.slice la n lc, .int .u64 t, .int .i64 x, .int .i64 y] w fun e w' => e = .returned (.bool true) ∧ Below w.heap.size w w' := by
  rcases h with h | ⟨h, h1⟩ | ⟨h, h1, h2⟩
  all_goals
    go_enter Try.func7, Try.ntmps7
    go_wp2_with (first
      | (go_at_call 11; (with_reducible refine (awake17_any _).mono ?_); rintro e W1 ⟨rfl, k1⟩; have Hw1 := k1; clear k1))
    go_ret
    exact ⟨rfl, Hw1⟩
theorem rowF_congr (n : Nat) (f g : Nat → Int) (h : ∀ i, i < n → f i = g i) : rowF n f = rowF n g := by
  apply Array.ext
  · simp [rowF]
  · intro i h1 h2
    have := h i (by simpa [rowF] using h1)
    simp [rowF, this]
def ownF (L : List Sg) (c : Nat) (i : Nat) : Int := (ownV L (16 * ((i % c : Nat) : Int) + 7) (16 * ((i / c : Nat) : Int) + 7) : Int)
theorem owners_row (L M : List Sg) (v : Value) (X Y N : Nat) (W : World) (hN : N = 4 * X * (4 * Y)) (hM : Sgs W v M) (hl : M.length ≤ 300) (hr : allR M = true) (hx : 1 ≤ X ∧ X ≤ 8) (hy : 1 ≤ Y ∧ Y ≤ 8) (hw : ∀ st x y, wnd M st x y = wnd L st x y) :
    Calls Try.prog 18 #[v, .int .i64 (X : Int), .int .i64 (Y : Int)] W fun e w' => (∃ b, e = .returned (.tuple #[.slice (some ⟨b, 0, none⟩) N N, .int .i64 0]) ∧ Blk w' b (rowF N (ownF L (4 * X))) 3) ∧ Below W.heap.size W w' := by
  subst hN
  refine (owners_any M v X Y W hM hr hl hx hy).mono fun e w' ⟨⟨b, h, h1, h2, h3⟩, hb⟩ => ⟨⟨b, h1, ?_⟩, hb⟩
  rw [rowF_congr _ (ownF L (4 * X)) h fun i hi => ?_]
  · exact h2
  · have g := h3 (i / (4 * X)) (Nat.div_lt_of_lt_mul hi) (i % (4 * X)) (Nat.mod_lt _ (by omega))
    rw [Nat.div_add_mod] at g
    rw [g, ownF, ownV_congr L M _ _ fun st => (hw st _ _).symm]
set_option maxHeartbeats 8000000 in
theorem turns17_no (L : List Sg) (v : Value) (t x y : Int)  (w : World) (hL : Sgs w v L) (hl : L.length ≤ 40) (x1 : x ≤ 8) (y1 : y ≤ 8) (t0 : 0 ≤ t) (t1 : t ≤ 18446744073709551615) (HO : Hid (∀ (v' : Value) (M : List Sg) (W : World), Sgs W v' M → allR M = allR L → Calls Try.prog 18 #[v', .int .i64 x, .int .i64 y] W fun e w' => e = .returned (.tuple #[.slice none 0 0, .int .i64 1]) ∧ Below W.heap.size W w')) :
    Calls Try.prog 7 #[v, .int .u64 t, .int .i64 x, .int .i64 y] w fun e w' => e = .returned (.bool true) ∧ Below w.heap.size w w' := by
  have HLS := Lib.hid hL
  obtain ⟨la, lc, lb, lo, rfl, llen, lget⟩ := hL.at
  have HG := Lib.hid lget
  clear hL lget
  obtain ⟨n, hn⟩ : ∃ n, n = L.length := ⟨_, rfl⟩
  rw [← hn] at llen
  rw [← hn]
  have HN := Lib.hid hn
  have hn9 : (n : Int) ≤ 9223372036854775807 := by omega
  rw [← hn] at hl
  rw [← HN.out] at HLS
  have hn3 : (n : Int) ≤ 40 := by omega
  have HL := Lib.hid hl
  clear hn llen hl
  go_enter Try.func7, Try.ntmps7
  go_wp2_with fail
  go_loopw [9, 31] (fun l i wr => ∃ k : Nat, k ≤ n ∧ i = .int .i64 (k : Int) ∧ (∃ M : List Sg, M.length = k ∧ OwnC wr w.heap.size 27 6 l (M.map sgC) ∧ allR M = allR (L.drop (n - k)) ∧ ∀ st x y, wnd M st x y = wnd (L.drop (n - k)) st x y) ∧ Below w.heap.size w wr) (fun _ i _ => n - (intOf i).toNat)
  case atStart => exact ⟨0, by omega, rfl, ⟨[], rfl, ownC_nil _ _ _ _, by rw [Nat.sub_zero, HN.out, List.drop_length], fun st x y => by rw [Nat.sub_zero, HN.out, List.drop_length]⟩, bq_refl _⟩
  case round =>
    obtain ⟨k, hk, rfl, ⟨M, hml, hown, hrr, hww⟩, hbel⟩ := hrel
    by_cases hlt : k < n
    · clear HO
      obtain ⟨j, hj⟩ : ∃ j, j = n - 1 - k := ⟨_, rfl⟩
      have hjn : j < n := by omega
      have ej : (n : Int) - 1 - (k : Int) = (j : Int) := by omega
      obtain ⟨rfl, he⟩ := HG.out j (by have := HN.out; omega)
      have RE := he.keep hbel
      have ltL := RE.lt
      have HT : Hid (L.drop (n - (k + 1)) = (L[j]'(by have := HN.out; omega)) :: L.drop (n - k)) := Lib.hid (by
        rw [show n - (k + 1) = j by omega, List.drop_eq_getElem_cons (by have := HN.out; omega), show j + 1 = n - k by omega])
      have HLE : Hid ((M.map sgC).length ≤ 1000000) := Lib.hid (by rw [List.length_map]; have := HL.out; omega)
      have OM := hown.m
      have SM : SzM wr w.heap.size wr.heap.size := ⟨Nat.le_refl _⟩
      have hsz : w.heap.size ≤ wr.heap.size := hbel.size
      clear he HG
      generalize L[j]'(by have := HN.out; omega) = s at *
      have HB := Lib.hid hbel
      have HML := Lib.hid hml
      have HRR := Lib.hid hrr
      have HWW := Lib.hid hww
      have i1 : (0 : Int) ≤ (k : Int) := by omega
      have i2 : (k : Int) < (n : Int) := by omega
      have j1 : (j : Int) < (n : Int) := by omega
      have j0 : (0 : Int) ≤ (j : Int) := by omega
      clear hbel hown hj hml hrr hww
      obtain ⟨c, hc⟩ : ∃ c, (bits .and .u64 (t / 2 ^ k) 1 == 1) = c := ⟨_, rfl⟩
      cases c with
      | true =>
        go_upto_region 8 with (go_big_may; first
          | (refine wpList_load_mid rfl 27 _ rfl lb (lo + j * 6) rfl [.int .i64 s.ax, .int .i64 s.ay, .int .i64 s.bx, .int .i64 s.by1, .int .i64 s.l, .int .i64 s.r] _ RE.rg Try.underlying27 rfl szSg ?_)
          | (refine wl_alloc 27 _ zeSg rfl rfl ?_; intro W21 bs Bs_21 l21 k21; have gs : wr.heap.size ≤ bs := l21; have los := Nat.le_trans SM.le l21; have Oe_21 := RE.keep k21; have Ov_21 := OM.keep k21; have Om_21 := SM.keep k21; have Hw21 := k21; clear l21 k21 RE OM SM)
          | (refine wl_store 27 6 szSg _ _ rfl rfl _ rfl #[.int .i64 s.ax, .int .i64 s.ay, .int .i64 s.bx, .int .i64 s.by1, .int .i64 s.l, .int .i64 s.r] rfl _ _ Bs_21 rfl rfl (by kernel_rfl) ?_; intro W22 Bs_22 T22; have Oe_22 := Oe_21.turned T22 (Nat.ne_of_lt (Nat.lt_of_lt_of_le ltL gs)); have Ov_22 := Ov_21.turned T22 (Or.inr los); have Om_22 := Om_21.turned T22 (Or.inr los); have Hw22 := T22.below Hw21 gs; clear T22 Oe_21 Ov_21 Om_21 Bs_21 Hw21))
        have cs4 : W22.cell? ⟨bs, 4, none⟩ = some (.int .i64 s.l) := Bs_22.cell 4
        have cs5 : W22.cell? ⟨bs, 5, none⟩ = some (.int .i64 s.r) := Bs_22.cell 5
        go_wp2_with (first
          | (refine wlg_mid17 25 _ Try.underlying25 rfl _ rfl (by rfl) bs 2 rfl (.int .i64 s.bx) (.int .i64 s.by1) szPt _ _ Bs_22 rfl rfl ?_)
          | (refine wlg_mid17 25 _ Try.underlying25 rfl _ rfl (by rfl) bs 0 rfl (.int .i64 s.ax) (.int .i64 s.ay) szPt _ _ Bs_22 rfl rfl ?_)
          | (refine wlg_build 27 [(0, .agg #[.int .i64 s.bx, .int .i64 s.by1]), (1, .agg #[.int .i64 s.ax, .int .i64 s.ay]), (2, .int .i64 s.r), (3, .int .i64 s.l)] #[.int .i64 s.bx, .int .i64 s.by1, .int .i64 s.ax, .int .i64 s.ay, .int .i64 s.r, .int .i64 s.l] (by kernel_rfl) _ rfl rfl rfl ?_)
          | (refine wl_store 27 6 szSg _ _ rfl rfl _ rfl #[.int .i64 s.bx, .int .i64 s.by1, .int .i64 s.ax, .int .i64 s.ay, .int .i64 s.r, .int .i64 s.l] rfl _ _ Bs_22 rfl rfl (by kernel_rfl) ?_; intro W23 Bs_23 T23; have Oe_23 := Oe_22.turned T23 (Nat.ne_of_lt (Nat.lt_of_lt_of_le ltL gs)); have Ov_23 := Ov_22.turned T23 (Or.inr los); have Om_23 := Om_22.turned T23 (Or.inr los); have Hw23 := T23.below Hw22 gs; clear T23 Oe_22 Ov_22 Om_22 Bs_22 Hw22; clear cs4 cs5)
          | (refine wl_load 27 6 _ Try.underlying27 rfl szSg _ rfl rfl _ rfl _ _ Bs_23 rfl ?_)
          | (refine wlg_slice 22 27 1 #[.int .i64 s.bx, .int .i64 s.by1, .int .i64 s.ax, .int .i64 s.ay, .int .i64 s.r, .int .i64 s.l] [(0, .agg #[.int .i64 s.bx, .int .i64 s.by1, .int .i64 s.ax, .int .i64 s.ay, .int .i64 s.r, .int .i64 s.l])] (sg1_run s.bx s.by1 s.ax s.ay s.r s.l) _ rfl rfl rfl ?_; intro W24 bn Bn_24 l24 k24; have gn : wr.heap.size ≤ bn := Nat.le_trans Hw23.size l24; have nsn : bs ≠ bn := Nat.ne_of_lt (Nat.lt_of_lt_of_le Bs_23.lt l24); have lon := Nat.le_trans Om_23.le l24; have Bs_24 := Bs_23.keep k24; have Oe_24 := Oe_23.keep k24; have Ov_24 := Ov_23.keep k24; have Om_24 := Om_23.keep k24; have Hw24 := bq_trans Hw23 k24; clear l24 k24 Bs_23 Oe_23 Ov_23 Om_23 Hw23)
          | (refine wl_appC 22 27 6 _ Try.underlying22 sg_info rfl (by decide) _ _ rfl rfl w.heap.size _ rfl (M.map sgC) Ov_24.1 bn 1 _ _ rfl Bn_24 rfl (by kernel_rfl) HLE.out (Nat.le_trans hsz Om_24.le) ?_; intro vn W25 hO k25 hgr hat; have Hwn := Hw24))
        go_roundw
        case rel => exact ⟨k + 1, by omega, by go_num, ⟨M ++ [trnS s], by simp [HML.out], by rw [List.map_append]; exact hO, by rw [HT.out]; simp only [allR, List.all_append, List.all_cons, List.all_nil, Bool.and_true]; have h := HRR.out; unfold allR at h; rw [h, rgtS_trn, Bool.and_comm], fun st x y => by rw [HT.out, wnd_append, HWW.out]; simp only [wnd]; rw [wnd1_trn]; omega⟩, (bq_trans HB.out Hwn).trans k25⟩
        case measure => simp [intOf]; omega
      | false =>
        go_upto_region 8 with (go_big_may; first
          | (refine wpList_load_mid rfl 27 _ rfl lb (lo + j * 6) rfl [.int .i64 s.ax, .int .i64 s.ay, .int .i64 s.bx, .int .i64 s.by1, .int .i64 s.l, .int .i64 s.r] _ RE.rg Try.underlying27 rfl szSg ?_)
          | (refine wl_alloc 27 _ zeSg rfl rfl ?_; intro W21 bs Bs_21 l21 k21; have gs : wr.heap.size ≤ bs := l21; have los := Nat.le_trans SM.le l21; have Oe_21 := RE.keep k21; have Ov_21 := OM.keep k21; have Om_21 := SM.keep k21; have Hw21 := k21; clear l21 k21 RE OM SM)
          | (refine wl_store 27 6 szSg _ _ rfl rfl _ rfl #[.int .i64 s.ax, .int .i64 s.ay, .int .i64 s.bx, .int .i64 s.by1, .int .i64 s.l, .int .i64 s.r] rfl _ _ Bs_21 rfl rfl (by kernel_rfl) ?_; intro W22 Bs_22 T22; have Oe_22 := Oe_21.turned T22 (Nat.ne_of_lt (Nat.lt_of_lt_of_le ltL gs)); have Ov_22 := Ov_21.turned T22 (Or.inr los); have Om_22 := Om_21.turned T22 (Or.inr los); have Hw22 := T22.below Hw21 gs; clear T22 Oe_21 Ov_21 Om_21 Bs_21 Hw21))
        go_wp2_with (first
          | (refine wl_load 27 6 _ Try.underlying27 rfl szSg _ rfl rfl _ rfl _ _ Bs_22 rfl ?_)
          | (refine wlg_slice 22 27 1 #[.int .i64 s.ax, .int .i64 s.ay, .int .i64 s.bx, .int .i64 s.by1, .int .i64 s.l, .int .i64 s.r] [(0, .agg #[.int .i64 s.ax, .int .i64 s.ay, .int .i64 s.bx, .int .i64 s.by1, .int .i64 s.l, .int .i64 s.r])] (sg1_run s.ax s.ay s.bx s.by1 s.l s.r) _ rfl rfl rfl ?_; intro W23 bn Bn_23 l23 k23; have gn : wr.heap.size ≤ bn := Nat.le_trans Hw22.size l23; have nsn : bs ≠ bn := Nat.ne_of_lt (Nat.lt_of_lt_of_le Bs_22.lt l23); have lon := Nat.le_trans Om_22.le l23; have Bs_23 := Bs_22.keep k23; have Oe_23 := Oe_22.keep k23; have Ov_23 := Ov_22.keep k23; have Om_23 := Om_22.keep k23; have Hw23 := bq_trans Hw22 k23; clear l23 k23 Bs_22 Oe_22 Ov_22 Om_22 Hw22)
          | (refine wl_appC 22 27 6 _ Try.underlying22 sg_info rfl (by decide) _ _ rfl rfl w.heap.size _ rfl (M.map sgC) Ov_23.1 bn 1 _ _ rfl Bn_23 rfl (by kernel_rfl) HLE.out (Nat.le_trans hsz Om_23.le) ?_; intro vn W24 hO k24 hgr hat; have Hwn := Hw23))
        go_roundw
        case rel => exact ⟨k + 1, by omega, by go_num, ⟨M ++ [s], by simp [HML.out], by rw [List.map_append]; exact hO, by rw [HT.out]; simp only [allR, List.all_append, List.all_cons, List.all_nil, Bool.and_true]; have h := HRR.out; unfold allR at h; rw [h, Bool.and_comm], fun st x y => by rw [HT.out, wnd_append, HWW.out]; simp only [wnd]; omega⟩, (bq_trans HB.out Hwn).trans k24⟩
        case measure => simp [intOf]; omega
    · have hkn : k = n := by omega
      have HB := Lib.hid hbel
      have HS := Lib.hid hown.sgs
      have HML : Hid (M.length ≤ 300) := Lib.hid (by have := HL.out; omega)
      have HRR : Hid (allR M = allR L) := Lib.hid (by rw [hrr, hkn, Nat.sub_self]; rfl)
      have HWW : Hid (∀ st x y, wnd M st x y = wnd L st x y) := Lib.hid fun st x y => by rw [hww, hkn, Nat.sub_self]; rfl
      clear hown hbel hml hrr hww
      subst hkn
      go_wp2_with (first
        | (go_at_call 18; (with_reducible refine (HO.out _ L _ (HLS.out.keep HB.out) rfl).mono ?_); rintro e W61 ⟨rfl, k61⟩; have Hw61 := k61; clear k61)
        | (go_at_call 18; (with_reducible refine (HO.out _ M _ (HS.out.keep Hw61) HRR.out).mono ?_); rintro e W62 ⟨rfl, k62⟩; have Hw62 := bq_trans Hw61 k62; clear k62 Hw61))
      have HB2 := Lib.hid (bq_trans HB.out Hw62)
      clear Hw62
      go_loopw [87] (fun t wr2 => t = .int .i64 0 ∧ Below W62.heap.size W62 wr2) (fun _ _ => 0)
      case atStart => exact ⟨rfl, bq_refl _⟩
      case round =>
        obtain ⟨rfl, hbel⟩ := hrel
        have HB3 := Lib.hid hbel
        clear hbel
        go_wp2_with (first
          | (go_at_call 11; (with_reducible refine (awake17_any _).mono ?_); rintro e W81 ⟨rfl, k81⟩))
        go_ret
        exact ⟨rfl, bq_trans (bq_trans HB2.out HB3.out) k81⟩
set_option maxHeartbeats 8000000 in
theorem turns17_yes (L : List Sg) (v : Value) (t x y : Int) (N : Nat) (hh : Nat → Int) (w : World) (hL : Sgs w v L) (hl : L.length ≤ 40) (x1 : x ≤ 8) (y1 : y ≤ 8) (t0 : 0 ≤ t) (t1 : t ≤ 18446744073709551615) (hN9 : N ≤ 1024) (en : ((N : Int) != (N : Int)) = false) (HO : Hid (∀ (v' : Value) (M : List Sg) (W : World), Sgs W v' M → allR M = allR L → (∀ st x y, wnd M st x y = wnd L st x y) → M.length ≤ 300 → Calls Try.prog 18 #[v', .int .i64 x, .int .i64 y] W fun e w' => (∃ b, e = .returned (.tuple #[.slice (some ⟨b, 0, none⟩) N N, .int .i64 0]) ∧ Blk w' b (rowF N hh) 3) ∧ Below W.heap.size W w')) :
    Calls Try.prog 7 #[v, .int .u64 t, .int .i64 x, .int .i64 y] w fun e w' => e = .returned (.bool true) ∧ Below w.heap.size w w' := by
  have HLS := Lib.hid hL
  obtain ⟨la, lc, lb, lo, rfl, llen, lget⟩ := hL.at
  have HG := Lib.hid lget
  clear hL lget
  obtain ⟨n, hn⟩ : ∃ n, n = L.length := ⟨_, rfl⟩
  rw [← hn] at llen
  rw [← hn]
  have HN := Lib.hid hn
  have hn9 : (n : Int) ≤ 9223372036854775807 := by omega
  rw [← hn] at hl
  rw [← HN.out] at HLS
  have hn3 : (n : Int) ≤ 40 := by omega
  have HL := Lib.hid hl
  clear hn llen hl
  go_enter Try.func7, Try.ntmps7
  go_wp2_with fail
  go_loopw [9, 31] (fun l i wr => ∃ k : Nat, k ≤ n ∧ i = .int .i64 (k : Int) ∧ (∃ M : List Sg, M.length = k ∧ OwnC wr w.heap.size 27 6 l (M.map sgC) ∧ allR M = allR (L.drop (n - k)) ∧ ∀ st x y, wnd M st x y = wnd (L.drop (n - k)) st x y) ∧ Below w.heap.size w wr) (fun _ i _ => n - (intOf i).toNat)
  case atStart => exact ⟨0, by omega, rfl, ⟨[], rfl, ownC_nil _ _ _ _, by rw [Nat.sub_zero, HN.out, List.drop_length], fun st x y => by rw [Nat.sub_zero, HN.out, List.drop_length]⟩, bq_refl _⟩
  case round =>
    obtain ⟨k, hk, rfl, ⟨M, hml, hown, hrr, hww⟩, hbel⟩ := hrel
    by_cases hlt : k < n
    · clear HO
      obtain ⟨j, hj⟩ : ∃ j, j = n - 1 - k := ⟨_, rfl⟩
      have hjn : j < n := by omega
      have ej : (n : Int) - 1 - (k : Int) = (j : Int) := by omega
      obtain ⟨rfl, he⟩ := HG.out j (by have := HN.out; omega)
      have RE := he.keep hbel
      have ltL := RE.lt
      have HT : Hid (L.drop (n - (k + 1)) = (L[j]'(by have := HN.out; omega)) :: L.drop (n - k)) := Lib.hid (by
        rw [show n - (k + 1) = j by omega, List.drop_eq_getElem_cons (by have := HN.out; omega), show j + 1 = n - k by omega])
      have HLE : Hid ((M.map sgC).length ≤ 1000000) := Lib.hid (by rw [List.length_map]; have := HL.out; omega)
      have OM := hown.m
      have SM : SzM wr w.heap.size wr.heap.size := ⟨Nat.le_refl _⟩
      have hsz : w.heap.size ≤ wr.heap.size := hbel.size
      clear he HG
      generalize L[j]'(by have := HN.out; omega) = s at *
      have HB := Lib.hid hbel
      have HML := Lib.hid hml
      have HRR := Lib.hid hrr
      have HWW := Lib.hid hww
      have i1 : (0 : Int) ≤ (k : Int) := by omega
      have i2 : (k : Int) < (n : Int) := by omega
      have j1 : (j : Int) < (n : Int) := by omega
      have j0 : (0 : Int) ≤ (j : Int) := by omega
      clear hbel hown hj hml hrr hww
      obtain ⟨c, hc⟩ : ∃ c, (bits .and .u64 (t / 2 ^ k) 1 == 1) = c := ⟨_, rfl⟩
      cases c with
      | true =>
        go_upto_region 8 with (go_big_may; first
          | (refine wpList_load_mid rfl 27 _ rfl lb (lo + j * 6) rfl [.int .i64 s.ax, .int .i64 s.ay, .int .i64 s.bx, .int .i64 s.by1, .int .i64 s.l, .int .i64 s.r] _ RE.rg Try.underlying27 rfl szSg ?_)
          | (refine wl_alloc 27 _ zeSg rfl rfl ?_; intro W21 bs Bs_21 l21 k21; have gs : wr.heap.size ≤ bs := l21; have los := Nat.le_trans SM.le l21; have Oe_21 := RE.keep k21; have Ov_21 := OM.keep k21; have Om_21 := SM.keep k21; have Hw21 := k21; clear l21 k21 RE OM SM)
          | (refine wl_store 27 6 szSg _ _ rfl rfl _ rfl #[.int .i64 s.ax, .int .i64 s.ay, .int .i64 s.bx, .int .i64 s.by1, .int .i64 s.l, .int .i64 s.r] rfl _ _ Bs_21 rfl rfl (by kernel_rfl) ?_; intro W22 Bs_22 T22; have Oe_22 := Oe_21.turned T22 (Nat.ne_of_lt (Nat.lt_of_lt_of_le ltL gs)); have Ov_22 := Ov_21.turned T22 (Or.inr los); have Om_22 := Om_21.turned T22 (Or.inr los); have Hw22 := T22.below Hw21 gs; clear T22 Oe_21 Ov_21 Om_21 Bs_21 Hw21))
        have cs4 : W22.cell? ⟨bs, 4, none⟩ = some (.int .i64 s.l) := Bs_22.cell 4
        have cs5 : W22.cell? ⟨bs, 5, none⟩ = some (.int .i64 s.r) := Bs_22.cell 5
        go_wp2_with (first
          | (refine wlg_mid17 25 _ Try.underlying25 rfl _ rfl (by rfl) bs 2 rfl (.int .i64 s.bx) (.int .i64 s.by1) szPt _ _ Bs_22 rfl rfl ?_)
          | (refine wlg_mid17 25 _ Try.underlying25 rfl _ rfl (by rfl) bs 0 rfl (.int .i64 s.ax) (.int .i64 s.ay) szPt _ _ Bs_22 rfl rfl ?_)
          | (refine wlg_build 27 [(0, .agg #[.int .i64 s.bx, .int .i64 s.by1]), (1, .agg #[.int .i64 s.ax, .int .i64 s.ay]), (2, .int .i64 s.r), (3, .int .i64 s.l)] #[.int .i64 s.bx, .int .i64 s.by1, .int .i64 s.ax, .int .i64 s.ay, .int .i64 s.r, .int .i64 s.l] (by kernel_rfl) _ rfl rfl rfl ?_)
          | (refine wl_store 27 6 szSg _ _ rfl rfl _ rfl #[.int .i64 s.bx, .int .i64 s.by1, .int .i64 s.ax, .int .i64 s.ay, .int .i64 s.r, .int .i64 s.l] rfl _ _ Bs_22 rfl rfl (by kernel_rfl) ?_; intro W23 Bs_23 T23; have Oe_23 := Oe_22.turned T23 (Nat.ne_of_lt (Nat.lt_of_lt_of_le ltL gs)); have Ov_23 := Ov_22.turned T23 (Or.inr los); have Om_23 := Om_22.turned T23 (Or.inr los); have Hw23 := T23.below Hw22 gs; clear T23 Oe_22 Ov_22 Om_22 Bs_22 Hw22; clear cs4 cs5)
          | (refine wl_load 27 6 _ Try.underlying27 rfl szSg _ rfl rfl _ rfl _ _ Bs_23 rfl ?_)
          | (refine wlg_slice 22 27 1 #[.int .i64 s.bx, .int .i64 s.by1, .int .i64 s.ax, .int .i64 s.ay, .int .i64 s.r, .int .i64 s.l] [(0, .agg #[.int .i64 s.bx, .int .i64 s.by1, .int .i64 s.ax, .int .i64 s.ay, .int .i64 s.r, .int .i64 s.l])] (sg1_run s.bx s.by1 s.ax s.ay s.r s.l) _ rfl rfl rfl ?_; intro W24 bn Bn_24 l24 k24; have gn : wr.heap.size ≤ bn := Nat.le_trans Hw23.size l24; have nsn : bs ≠ bn := Nat.ne_of_lt (Nat.lt_of_lt_of_le Bs_23.lt l24); have lon := Nat.le_trans Om_23.le l24; have Bs_24 := Bs_23.keep k24; have Oe_24 := Oe_23.keep k24; have Ov_24 := Ov_23.keep k24; have Om_24 := Om_23.keep k24; have Hw24 := bq_trans Hw23 k24; clear l24 k24 Bs_23 Oe_23 Ov_23 Om_23 Hw23)
          | (refine wl_appC 22 27 6 _ Try.underlying22 sg_info rfl (by decide) _ _ rfl rfl w.heap.size _ rfl (M.map sgC) Ov_24.1 bn 1 _ _ rfl Bn_24 rfl (by kernel_rfl) HLE.out (Nat.le_trans hsz Om_24.le) ?_; intro vn W25 hO k25 hgr hat; have Hwn := Hw24))
        go_roundw
        case rel => exact ⟨k + 1, by omega, by go_num, ⟨M ++ [trnS s], by simp [HML.out], by rw [List.map_append]; exact hO, by rw [HT.out]; simp only [allR, List.all_append, List.all_cons, List.all_nil, Bool.and_true]; have h := HRR.out; unfold allR at h; rw [h, rgtS_trn, Bool.and_comm], fun st x y => by rw [HT.out, wnd_append, HWW.out]; simp only [wnd]; rw [wnd1_trn]; omega⟩, (bq_trans HB.out Hwn).trans k25⟩
        case measure => simp [intOf]; omega
      | false =>
        go_upto_region 8 with (go_big_may; first
          | (refine wpList_load_mid rfl 27 _ rfl lb (lo + j * 6) rfl [.int .i64 s.ax, .int .i64 s.ay, .int .i64 s.bx, .int .i64 s.by1, .int .i64 s.l, .int .i64 s.r] _ RE.rg Try.underlying27 rfl szSg ?_)
          | (refine wl_alloc 27 _ zeSg rfl rfl ?_; intro W21 bs Bs_21 l21 k21; have gs : wr.heap.size ≤ bs := l21; have los := Nat.le_trans SM.le l21; have Oe_21 := RE.keep k21; have Ov_21 := OM.keep k21; have Om_21 := SM.keep k21; have Hw21 := k21; clear l21 k21 RE OM SM)
          | (refine wl_store 27 6 szSg _ _ rfl rfl _ rfl #[.int .i64 s.ax, .int .i64 s.ay, .int .i64 s.bx, .int .i64 s.by1, .int .i64 s.l, .int .i64 s.r] rfl _ _ Bs_21 rfl rfl (by kernel_rfl) ?_; intro W22 Bs_22 T22; have Oe_22 := Oe_21.turned T22 (Nat.ne_of_lt (Nat.lt_of_lt_of_le ltL gs)); have Ov_22 := Ov_21.turned T22 (Or.inr los); have Om_22 := Om_21.turned T22 (Or.inr los); have Hw22 := T22.below Hw21 gs; clear T22 Oe_21 Ov_21 Om_21 Bs_21 Hw21))
        go_wp2_with (first
          | (refine wl_load 27 6 _ Try.underlying27 rfl szSg _ rfl rfl _ rfl _ _ Bs_22 rfl ?_)
          | (refine wlg_slice 22 27 1 #[.int .i64 s.ax, .int .i64 s.ay, .int .i64 s.bx, .int .i64 s.by1, .int .i64 s.l, .int .i64 s.r] [(0, .agg #[.int .i64 s.ax, .int .i64 s.ay, .int .i64 s.bx, .int .i64 s.by1, .int .i64 s.l, .int .i64 s.r])] (sg1_run s.ax s.ay s.bx s.by1 s.l s.r) _ rfl rfl rfl ?_; intro W23 bn Bn_23 l23 k23; have gn : wr.heap.size ≤ bn := Nat.le_trans Hw22.size l23; have nsn : bs ≠ bn := Nat.ne_of_lt (Nat.lt_of_lt_of_le Bs_22.lt l23); have lon := Nat.le_trans Om_22.le l23; have Bs_23 := Bs_22.keep k23; have Oe_23 := Oe_22.keep k23; have Ov_23 := Ov_22.keep k23; have Om_23 := Om_22.keep k23; have Hw23 := bq_trans Hw22 k23; clear l23 k23 Bs_22 Oe_22 Ov_22 Om_22 Hw22)
          | (refine wl_appC 22 27 6 _ Try.underlying22 sg_info rfl (by decide) _ _ rfl rfl w.heap.size _ rfl (M.map sgC) Ov_23.1 bn 1 _ _ rfl Bn_23 rfl (by kernel_rfl) HLE.out (Nat.le_trans hsz Om_23.le) ?_; intro vn W24 hO k24 hgr hat; have Hwn := Hw23))
        go_roundw
        case rel => exact ⟨k + 1, by omega, by go_num, ⟨M ++ [s], by simp [HML.out], by rw [List.map_append]; exact hO, by rw [HT.out]; simp only [allR, List.all_append, List.all_cons, List.all_nil, Bool.and_true]; have h := HRR.out; unfold allR at h; rw [h, Bool.and_comm], fun st x y => by rw [HT.out, wnd_append, HWW.out]; simp only [wnd]; omega⟩, (bq_trans HB.out Hwn).trans k24⟩
        case measure => simp [intOf]; omega
    · have hkn : k = n := by omega
      have HB := Lib.hid hbel
      have HS := Lib.hid hown.sgs
      have HML : Hid (M.length ≤ 300) := Lib.hid (by have := HL.out; omega)
      have HRR : Hid (allR M = allR L) := Lib.hid (by rw [hrr, hkn, Nat.sub_self]; rfl)
      have HWW : Hid (∀ st x y, wnd M st x y = wnd L st x y) := Lib.hid fun st x y => by rw [hww, hkn, Nat.sub_self]; rfl
      clear hown hbel hml hrr hww
      subst hkn
      go_wp2_with (first
        | (go_at_call 18; (with_reducible refine (HO.out _ L _ (HLS.out.keep HB.out) rfl (fun _ _ _ => rfl) (by have := HL.out; have := HN.out; omega)).mono ?_); rintro e W61 ⟨⟨b1, rfl, B1⟩, k61⟩; have Hw61 := k61; clear k61)
        | (go_at_call 18; (with_reducible refine (HO.out _ M _ (HS.out.keep Hw61) HRR.out HWW.out HML.out).mono ?_); rintro e W62 ⟨⟨b2, rfl, B2⟩, k62⟩; have Ba_62 := B1.keep k62; have Hw62 := bq_trans Hw61 k62; clear k62 B1 Hw61))
      have HB2 := Lib.hid (bq_trans HB.out Hw62)
      have HR1 := Lib.hid Ba_62
      have HR2 := Lib.hid B2
      clear Hw62 Ba_62 B2 HO en
      go_loopw [87] (fun t wr2 => ∃ i : Nat, i ≤ N ∧ t = .int .i64 (i : Int) ∧ Below W62.heap.size W62 wr2) (fun t _ => N - (intOf t).toNat)
      case atStart => exact ⟨0, by omega, rfl, bq_refl _⟩
      case round =>
        obtain ⟨i, hi, rfl, hbel⟩ := hrel
        have HB3 := Lib.hid hbel
        clear hbel
        by_cases hlt2 : i < N
        · have i1 : (i : Int) < (N : Int) := by omega
          have HPP : Hid (0 ≤ (i : Int) ∧ (i : Int) < (N : Int)) := Lib.hid (by omega)
          have HC1 : Hid (∀ W, Below W62.heap.size W62 W → W.cell? ⟨b1, i, none⟩ = some (.int .i64 (hh i))) := Lib.hid fun W hW => by rw [(HR1.out.keep hW).cell, rowF_at _ _ _ hlt2]
          have HC2 : Hid (∀ W, Below W62.heap.size W62 W → W.cell? ⟨b2, i, none⟩ = some (.int .i64 (hh i))) := Lib.hid fun W hW => by rw [(HR2.out.keep hW).cell, rowF_at _ _ _ hlt2]
          generalize hh i = Z at *
          go_upto_region 19 with (fail)
          refine Det.wp_region_det (S := fun w' => Below wr.heap.size wr w') (by kernel_rfl) (by kernel_rfl) (bq_drew (bq_refl _)) ?_
          refine Det.det_take (v := ?_) (by rfl) ?_ ?_
          rotate_left
          · (intro w hSw; go_simp; try with_reducible rfl)
          try simp only [Act.put, List.setIfInBounds_toArray, List.set_cons_zero, List.set_cons_succ]
          refine Det.det_take (v := ?_) (by rfl) ?_ ?_
          rotate_left
          · (intro w hSw; go_simp; try with_reducible rfl)
          try simp only [Act.put, List.setIfInBounds_toArray, List.set_cons_zero, List.set_cons_succ]
          refine Det.det_take (v := ?_) (by rfl) ?_ ?_
          rotate_left
          · (intro w hSw; have p0 := HPP.out.1; have p1 := HPP.out.2; go_simp; try with_reducible rfl)
          try simp only [Act.put, List.setIfInBounds_toArray, List.set_cons_zero, List.set_cons_succ]
          refine Det.det_take (v := ?_) (by rfl) ?_ ?_
          rotate_left
          · (intro w hSw; have cc : w.cell? ⟨b1, i, none⟩ = some (.int .i64 Z) := HC1.out w (bq_trans HB3.out hSw); go_simp; try with_reducible rfl)
          try simp only [Act.put, List.setIfInBounds_toArray, List.set_cons_zero, List.set_cons_succ]
          refine Det.det_take (v := ?_) (by rfl) ?_ ?_
          rotate_left
          · (intro w hSw; go_simp; try with_reducible rfl)
          try simp only [Act.put, List.setIfInBounds_toArray, List.set_cons_zero, List.set_cons_succ]
          refine Det.det_take (v := ?_) (by rfl) ?_ ?_
          rotate_left
          · (intro w hSw; go_simp; try with_reducible rfl)
          try simp only [Act.put, List.setIfInBounds_toArray, List.set_cons_zero, List.set_cons_succ]
          refine Det.det_take (v := ?_) (by rfl) ?_ ?_
          rotate_left
          · (intro w hSw; have p0 := HPP.out.1; have p1 := HPP.out.2; go_simp; try with_reducible rfl)
          try simp only [Act.put, List.setIfInBounds_toArray, List.set_cons_zero, List.set_cons_succ]
          refine Det.det_take (v := ?_) (by rfl) ?_ ?_
          rotate_left
          · (intro w hSw; have cc : w.cell? ⟨b2, i, none⟩ = some (.int .i64 Z) := HC2.out w (bq_trans HB3.out hSw); go_simp; try with_reducible rfl)
          try simp only [Act.put, List.setIfInBounds_toArray, List.set_cons_zero, List.set_cons_succ]
          refine Det.det_take (v := ?_) (by rfl) ?_ ?_
          rotate_left
          · (intro w hSw; have en : (Z != Z) = false := (by simp); go_simp; try with_reducible rfl)
          try simp only [Act.put, List.setIfInBounds_toArray, List.set_cons_zero, List.set_cons_succ]
          refine Det.det_nil (fun W81 k81 => ?_)
          have Hw81 := k81
          clear k81 
          go_wp2_with fail
          go_roundw
          case rel => exact ⟨i + 1, by omega, by go_num, bq_trans HB3.out Hw81⟩
          case measure => simp [intOf]; omega
        · have i1 : (N : Int) ≤ (i : Int) := by omega
          go_wp2_with (first
            | (go_at_call 11; (with_reducible refine (awake17_any _).mono ?_); rintro e W99 ⟨rfl, k99⟩))
          go_ret
          exact ⟨rfl, bq_trans (bq_trans HB2.out HB3.out) k99⟩
theorem turns17_walk (L : List Sg) (v : Value) (t x y : Int) (w : World) (hL : Sgs w v L) (ht : 0 ≤ t ∧ t ≤ 18446744073709551615) :
    Calls Try.prog 7 #[v, .int .u64 t, .int .i64 x, .int .i64 y] w fun e w' => e = .returned (.bool true) ∧ Below w.heap.size w w' := by
  by_cases hm : (40 : Int) < (L.length : Int) ∨ (L.length : Int) ≤ 40 ∧ 8 < x ∨ (L.length : Int) ≤ 40 ∧ x ≤ 8 ∧ 8 < y
  · obtain ⟨la, lc, lb, lo, rfl, llen, lget⟩ := hL.at
    exact turns17_many la L.length lc t x y w hm
  · by_cases hs : (frmB x y && allR L) = false
    · exact turns17_no L v t x y w hL (by omega) (by omega) (by omega) ht.1 ht.2 (Lib.hid fun v' M W hM hr => owners_refused M v' x y W hM (by rw [hr]; exact hs))
    · have hb : frmB x y = true ∧ allR L = true := by simpa using hs
      obtain ⟨b1, b2, b3, b4⟩ := frmB_bd hb.1
      obtain ⟨X, rfl⟩ := Int.eq_ofNat_of_zero_le (show 0 ≤ x by omega)
      obtain ⟨Y, rfl⟩ := Int.eq_ofNat_of_zero_le (show 0 ≤ y by omega)
      have hx : 1 ≤ X ∧ X ≤ 8 := by omega
      have hy : 1 ≤ Y ∧ Y ≤ 8 := by omega
      have hN : 4 * X * (4 * Y) ≤ 32 * 32 := Nat.mul_le_mul (by omega) (by omega)
      exact turns17_yes L v t _ _ (4 * X * (4 * Y)) (ownF L (4 * X)) w hL (by omega) (by omega) (by omega) ht.1 ht.2 (by omega) (by simp) (Lib.hid fun v' M W hM hr hw hl => owners_row L M v' X Y _ W rfl hM hl (hr.trans hb.2) hx hy hw)
end Go.Proofs.Ytgopaajmbifbaaa
