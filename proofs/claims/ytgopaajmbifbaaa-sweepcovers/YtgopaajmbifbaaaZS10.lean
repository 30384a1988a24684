import Derived.Test.YtgopaajmbifbaaaZS9
import Derived.BigRegion
namespace Go.Proofs.Ytgopaajmbifbaaa
open Go.RowKit
set_option linter.unusedVariables false
set_option linter.unusedSimpArgs false
set_option maxRecDepth 100000
structure Bst (L : List Sg) (x y : Int) (P : Int → Prop) (m : Nat) : Prop where
  le : m ≤ 255
  pos : m = 0 ∨ 0 < wnd L (m : Int) x y
  no : ∀ t : Int, P t → (m : Int) < t → ¬ 0 < wnd L t x y
theorem Bst.skip {L : List Sg} {x y : Int} {P : Int → Prop} {m e : Nat} (h : Bst L x y P m) (he : e ≤ m ∨ ¬ 0 < wnd L (e : Int) x y) : Bst L x y (fun t => P t ∨ t = (e : Int)) m := by
  refine ⟨h.le, h.pos, fun t ht hm => ?_⟩
  rcases ht with ht | rfl
  · exact h.no t ht hm
  · rcases he with he | he
    · omega
    · exact he
theorem Bst.take {L : List Sg} {x y : Int} {P : Int → Prop} {m e : Nat} (h : Bst L x y P m) (hm : m < e) (he : e ≤ 255) (hw : 0 < wnd L (e : Int) x y) : Bst L x y (fun t => P t ∨ t = (e : Int)) e := by
  refine ⟨he, Or.inr hw, fun t ht hm2 => ?_⟩
  rcases ht with ht | rfl
  · exact h.no t ht (by omega)
  · omega
def seen (L : List Sg) (t : Int) : Prop := ∃ s ∈ L, t = s.l ∨ t = s.r
theorem Bst.own {L : List Sg} {x y : Int} {m : Nat} (h : Bst L x y (seen L) m) : ownV L x y = m := by
  refine topN_is _ m 256 (by have := h.le; omega) h.pos fun s hs1 hs2 => ?_
  by_cases hp : seen L (s : Int)
  · exact h.no (s : Int) hp (by omega)
  · rw [wnd_none (s : Int) x y L fun t ht => ⟨fun e => hp ⟨t, ht, Or.inl e.symm⟩, fun e => hp ⟨t, ht, Or.inr e.symm⟩⟩]
    omega
theorem Bst.congr {L : List Sg} {x y : Int} {P Q : Int → Prop} {m : Nat} (h : Bst L x y P m) (hpq : ∀ t, Q t → P t) : Bst L x y Q m := ⟨h.le, h.pos, fun t ht hm => h.no t (hpq t ht) hm⟩
set_option maxHeartbeats 4000000 in
theorem rowner_any (L : List Sg) (v : Value) (x y : Int) (w : World) (hL : Sgs w v L) (hr : allR L = true) (hx : smpB x = true) (hy : smpB y = true) :
    Calls Try.prog 20 #[v, .int .i64 x, .int .i64 y] w fun e w' => e = .returned (.int .i64 (ownV L x y : Int)) ∧ Below w.heap.size w w' := by
  have HWO : Hid (∀ (e : Int) (W : World), Below w.heap.size w W → Calls Try.prog 15 #[v, .int .i64 e, .int .i64 x, .int .i64 y] W fun e' w' => e' = .returned (.int .i64 (wnd L e x y)) ∧ Below W.heap.size W w') := Lib.hid fun e W hW => rwound_any L v e x y W (hL.keep hW) hx hy
  have HR := Lib.hid (List.all_eq_true.1 hr)
  clear hr hx hy
  obtain ⟨la, lc, lb, lo, rfl, llen, lget⟩ := hL.at
  have HG := Lib.hid lget
  clear hL lget
  obtain ⟨n, hn⟩ : ∃ n, n = L.length := ⟨_, rfl⟩
  rw [← hn] at llen
  rw [← hn]
  have HN := Lib.hid hn
  have hn9 : (n : Int) ≤ 9223372036854775807 := by omega
  clear hn llen
  rw [← HN.out] at HWO
  go_enter Try.func20, Try.ntmps20
  go_wp2_with fail
  go_loopw [7, 8] (fun b i wr => ∃ k : Nat, k ≤ n ∧ i = .int .i64 (k : Int) ∧ (∃ m : Nat, b = .int .i64 (m : Int) ∧ Bst L x y (fun t => seen (L.take k) t) m) ∧ Below w.heap.size w wr) (fun _ i _ => n - (intOf i).toNat)
  case atStart => exact ⟨0, by omega, rfl, ⟨0, rfl, ⟨by omega, Or.inl rfl, fun t ht => by obtain ⟨s, hs, _⟩ := ht; simp at hs⟩⟩, bq_refl _⟩
  case round =>
    obtain ⟨k, hk, rfl, ⟨m0, rfl, hbs⟩, hbel⟩ := hrel
    by_cases hlt : k < n
    · obtain ⟨rfl, he⟩ := HG.out k (by have := HN.out; omega)
      have RE := he.keep hbel
      have hrs := (rgtS_bd (HR.out (L[k]'(by have := HN.out; omega)) (List.getElem_mem _))).2.2
      have HTK : Hid (∀ t, seen (L.take (k + 1)) t → (seen (L.take k) t ∨ t = (L[k]'(by have := HN.out; omega)).l) ∨ t = (L[k]'(by have := HN.out; omega)).r) := Lib.hid fun t ht => by
        obtain ⟨s, hs, h2⟩ := ht
        rw [List.take_succ_eq_append_getElem (by have := HN.out; omega)] at hs
        rcases List.mem_append.1 hs with h3 | h3
        · exact Or.inl (Or.inl ⟨s, h3, h2⟩)
        · simp only [List.mem_singleton] at h3
          subst h3
          rcases h2 with h2 | h2
          · exact Or.inl (Or.inr h2)
          · exact Or.inr h2
      clear he HG
      generalize L[k]'(by have := HN.out; omega) = s at *
      obtain ⟨ln, hln⟩ := Int.eq_ofNat_of_zero_le hrs.1.1
      obtain ⟨rn, hrn⟩ := Int.eq_ofNat_of_zero_le hrs.2.1
      have HLR : Hid (ln ≤ 255 ∧ rn ≤ 255) := Lib.hid (by omega)
      have c4 : wr.cell? ⟨lb, lo + k * 6 + 4, none⟩ = some (.int .i64 (ln : Int)) := RE.l.trans (by rw [hln])
      have c5 : wr.cell? ⟨lb, lo + k * 6 + 5, none⟩ = some (.int .i64 (rn : Int)) := RE.r.trans (by rw [hrn])
      rw [hln, hrn] at HTK
      have HB := Lib.hid hbel
      have HBS0 := Lib.hid hbs
      have i1 : (0 : Int) ≤ (k : Int) := by omega
      have i2 : (k : Int) < (n : Int) := by omega
      have hrun := ints2_run (ln : Int) (rn : Int)
      have BN : Hid (Blk (wr.alloc (.cells #[.int .i64 (ln : Int), .int .i64 (rn : Int)] 3)).drew wr.heap.size #[.int .i64 (ln : Int), .int .i64 (rn : Int)] 3) := Lib.hid (blk_new _ _ _).drew
      have HBN : Hid (Below w.heap.size w (wr.alloc (.cells #[.int .i64 (ln : Int), .int .i64 (rn : Int)] 3)).drew) := Lib.hid (bq_drew (bq_alloc hbel _))
      clear hbel hbs hrs hln hrn RE
      go_upto_region 5 with (fail)
      go_region
      clear c4 c5 hrun
      have B5 := BN.out
      generalize hbs5 : wr.heap.size = bs at *
      clear hbs5
      generalize (wr.alloc (.cells #[.int .i64 (ln : Int), .int .i64 (rn : Int)] 3)).drew = W5 at *
      have Bs : Blk W5 bs #[.int .i64 (ln : Int), .int .i64 (rn : Int)] 3 := B5
      clear B5 BN
      go_wp2_with fail
      go_loopw [7, 29] (fun b i wr => (i = .int .i64 0 ∧ (∃ m : Nat, b = .int .i64 (m : Int) ∧ Bst L x y (fun t => seen (L.take k) t) m) ∨ i = .int .i64 1 ∧ (∃ m : Nat, b = .int .i64 (m : Int) ∧ Bst L x y (fun t => seen (L.take k) t ∨ t = (ln : Int)) m) ∨ i = .int .i64 2 ∧ (∃ m : Nat, b = .int .i64 (m : Int) ∧ Bst L x y (fun t => (seen (L.take k) t ∨ t = (ln : Int)) ∨ t = (rn : Int)) m)) ∧ Blk wr bs #[.int .i64 (ln : Int), .int .i64 (rn : Int)] 3 ∧ Below w.heap.size w wr) (fun _ i _ => 2 - (intOf i).toNat)
      case atStart => exact ⟨Or.inl ⟨rfl, m0, rfl, HBS0.out⟩, Bs, HBN.out⟩
      case round =>
        obtain ⟨hd, Bs2, hbel2⟩ := hrel
        have HB4 := Lib.hid hbel2
        clear hbel2 Bs HBS0
        rcases hd with ⟨rfl, m, rfl, hbs⟩ | ⟨rfl, m, rfl, hbs⟩ | ⟨rfl, m, rfl, hbs⟩
        · have HBS := Lib.hid hbs
          clear hbs
          have ce : wr.cell? ⟨bs, 0, none⟩ = some (.int .i64 (ln : Int)) := Bs2.cell 0
          by_cases hme : (m : Int) < (ln : Int)
          · by_cases hpw : 0 < wnd L (ln : Int) x y
            · have HX : Hid (Bst L x y (fun t => seen (L.take k) t ∨ t = (ln : Int)) ln) := Lib.hid (HBS.out.take (by omega) (by have := HLR.out; omega) hpw)
              have HWE := Lib.hid (HWO.out (ln : Int))
              generalize wnd L (ln : Int) x y = V at *
              go_wp2_with (first
                | (go_at_call 15; (with_reducible refine (HWE.out _ HB4.out).mono ?_); rintro e W9 ⟨rfl, k9⟩))
              go_roundw
              case rel => exact ⟨Or.inr (Or.inl ⟨rfl, _, rfl, HX.out⟩), Bs2.keep k9, HB4.out.trans (k9.mono HB4.out.size)⟩
              case measure => simp [intOf]
            · have HX : Hid (Bst L x y (fun t => seen (L.take k) t ∨ t = (ln : Int)) m) := Lib.hid (HBS.out.skip (Or.inr hpw))
              have HWE := Lib.hid (HWO.out (ln : Int))
              generalize wnd L (ln : Int) x y = V at *
              go_wp2_with (first
                | (go_at_call 15; (with_reducible refine (HWE.out _ HB4.out).mono ?_); rintro e W9 ⟨rfl, k9⟩))
              go_roundw
              case rel => exact ⟨Or.inr (Or.inl ⟨rfl, _, rfl, HX.out⟩), Bs2.keep k9, HB4.out.trans (k9.mono HB4.out.size)⟩
              case measure => simp [intOf]
          · have HX : Hid (Bst L x y (fun t => seen (L.take k) t ∨ t = (ln : Int)) m) := Lib.hid (HBS.out.skip (Or.inl (by omega)))
            go_wp2_with fail
            go_roundw
            case rel => exact ⟨Or.inr (Or.inl ⟨rfl, _, rfl, HX.out⟩), Bs2, HB4.out⟩
            case measure => simp [intOf]
        · have HBS := Lib.hid hbs
          clear hbs
          have ce : wr.cell? ⟨bs, 1, none⟩ = some (.int .i64 (rn : Int)) := Bs2.cell 1
          by_cases hme : (m : Int) < (rn : Int)
          · by_cases hpw : 0 < wnd L (rn : Int) x y
            · have HX : Hid (Bst L x y (fun t => (seen (L.take k) t ∨ t = (ln : Int)) ∨ t = (rn : Int)) rn) := Lib.hid (HBS.out.take (by omega) (by have := HLR.out; omega) hpw)
              have HWE := Lib.hid (HWO.out (rn : Int))
              generalize wnd L (rn : Int) x y = V at *
              go_wp2_with (first
                | (go_at_call 15; (with_reducible refine (HWE.out _ HB4.out).mono ?_); rintro e W9 ⟨rfl, k9⟩))
              go_roundw
              case rel => exact ⟨Or.inr (Or.inr ⟨rfl, _, rfl, HX.out⟩), Bs2.keep k9, HB4.out.trans (k9.mono HB4.out.size)⟩
              case measure => simp [intOf]
            · have HX : Hid (Bst L x y (fun t => (seen (L.take k) t ∨ t = (ln : Int)) ∨ t = (rn : Int)) m) := Lib.hid (HBS.out.skip (Or.inr hpw))
              have HWE := Lib.hid (HWO.out (rn : Int))
              generalize wnd L (rn : Int) x y = V at *
              go_wp2_with (first
                | (go_at_call 15; (with_reducible refine (HWE.out _ HB4.out).mono ?_); rintro e W9 ⟨rfl, k9⟩))
              go_roundw
              case rel => exact ⟨Or.inr (Or.inr ⟨rfl, _, rfl, HX.out⟩), Bs2.keep k9, HB4.out.trans (k9.mono HB4.out.size)⟩
              case measure => simp [intOf]
          · have HX : Hid (Bst L x y (fun t => (seen (L.take k) t ∨ t = (ln : Int)) ∨ t = (rn : Int)) m) := Lib.hid (HBS.out.skip (Or.inl (by omega)))
            go_wp2_with fail
            go_roundw
            case rel => exact ⟨Or.inr (Or.inr ⟨rfl, _, rfl, HX.out⟩), Bs2, HB4.out⟩
            case measure => simp [intOf]
        · have HX : Hid (Bst L x y (fun t => seen (L.take (k + 1)) t) m) := Lib.hid (hbs.congr HTK.out)
          clear hbs
          go_wp2_with fail
          go_roundw
          case rel => exact ⟨k + 1, by omega, by go_num, ⟨m, rfl, HX.out⟩, HB4.out⟩
          case measure => simp [intOf]; omega
    · have hkn : k = n := by omega
      have HB := Lib.hid hbel
      have HA : Hid (ownV L x y = m0) := Lib.hid (by
        have h := hbs.congr (Q := seen L) fun t ht => by
          rw [hkn, HN.out, List.take_length]
          exact ht
        exact h.own)
      clear hbel hbs
      subst hkn
      go_wp2_with fail
      go_ret
      exact ⟨ret_int (by rw [HA.out]), HB.out⟩
end Go.Proofs.Ytgopaajmbifbaaa
namespace Go.Proofs.Ytgopaajmbifbaaa
open Go.RowKit
set_option linter.unusedVariables false
set_option linter.unusedSimpArgs false
set_option maxRecDepth 100000
def sqL : List Sg := [⟨0, 0, 0, 64, 1, 0⟩, ⟨0, 64, 64, 64, 1, 0⟩, ⟨64, 64, 64, 0, 1, 0⟩, ⟨64, 0, 0, 0, 1, 0⟩]
theorem Blk.sgs {w : World} {b : Nat} {L : List Sg} {t : TypeId} (h : Blk w b (L.map sgC).flatten.toArray t) (hl : L.length ≤ 9223372036854775807) (c : Nat) : Sgs w (.slice (some ⟨b, 0, none⟩) L.length c) L := by
  refine ⟨some ⟨b, 0, none⟩, c, b, 0, rfl, hl, Or.inr ⟨rfl, h.lt⟩, fun i hi => ⟨sgC L[i], rfl, rfl, fun j u hj => ?_⟩⟩
  have hj6 : j < 6 := (List.getElem?_eq_some_iff.1 hj).1
  rw [h.cell, Nat.zero_add]
  have e := flat_at 6 (L.map sgC) (fun c hc => by obtain ⟨s, _, rfl⟩ := List.mem_map.1 hc; rfl) i (by simpa using hi) j hj6
  rw [List.getElem?_toArray, e, List.getElem_map]
  exact hj
set_option maxHeartbeats 2000000 in
theorem square_any (w : World) : Calls Try.prog 22 #[] w fun e w' => (∃ v, e = .returned v ∧ Sgs w' v sqL) ∧ Below w.heap.size w w' := by
  go_enter Try.func22, Try.ntmps22
  go_wp2_with fail
  go_ret
  refine ⟨⟨_, rfl, Blk.sgs (L := sqL) (t := 27) ?_ (by decide) 4⟩, bq_alloc (bq_alloc (bq_alloc (bq_alloc (bq_alloc (bq_refl _) _) _) _) _) _⟩
  rw [show (sqL.map sgC).flatten.toArray = #[.int .i64 0, .int .i64 0, .int .i64 0, .int .i64 64, .int .i64 1, .int .i64 0, .int .i64 0, .int .i64 64, .int .i64 64, .int .i64 64, .int .i64 1, .int .i64 0, .int .i64 64, .int .i64 64, .int .i64 64, .int .i64 0, .int .i64 1, .int .i64 0, .int .i64 64, .int .i64 0, .int .i64 0, .int .i64 0, .int .i64 1, .int .i64 0] from by kernel_rfl]
  have hB := blk_new ((((w.alloc (.cells #[.int .i64 0, .int .i64 0] 25)).alloc (.cells #[.int .i64 0, .int .i64 64] 25)).alloc (.cells #[.int .i64 64, .int .i64 64] 25)).alloc (.cells #[.int .i64 64, .int .i64 0] 25)) #[.int .i64 0, .int .i64 0, .int .i64 0, .int .i64 64, .int .i64 1, .int .i64 0, .int .i64 0, .int .i64 64, .int .i64 64, .int .i64 64, .int .i64 1, .int .i64 0, .int .i64 64, .int .i64 64, .int .i64 64, .int .i64 0, .int .i64 1, .int .i64 0, .int .i64 64, .int .i64 0, .int .i64 0, .int .i64 0, .int .i64 1, .int .i64 0] 27
  simp only [World.size_alloc] at hB
  exact hB
theorem sq_own : ∀ k : Fin 4, ∀ i : Fin 8, ownV sqL (16 * ((i : Nat) : Int) + 7) (16 * ((k : Nat) : Int) + 7) = if i.val < 4 then 1 else 0 := by decide +kernel
theorem cnR_congr (z z' : Nat → Int) (a : Nat) (st : Int) : ∀ n, (∀ j, j < n → z (a + j) = z' (a + j)) → cnR z a st n = cnR z' a st n
  | 0, _ => rfl
  | n + 1, h => by
    unfold cnR
    rw [cnR_congr z z' a st n fun j hj => h j (by omega), h n (by omega)]
theorem cov_congr (z z' : Nat → Int) (w x y : Nat) (st : Int) : ∀ n, (∀ k, k < n → ∀ j, j < 4 → z ((4 * y + k) * 4 * w + 4 * x + j) = z' ((4 * y + k) * 4 * w + 4 * x + j)) → cov z w x y st n = cov z' w x y st n
  | 0, _ => rfl
  | n + 1, h => by
    unfold cov
    rw [cov_congr z z' w x y st n fun k hk => h k (by omega), cnR_congr z z' _ st 4 (h n (by omega))]
theorem Blk.owns {w : World} {b n : Nat} {h : Nat → Int} (B : Blk w b (rowF n h) 3) (hb : ∀ i, i < n → 0 ≤ h i ∧ h i ≤ 255) : Ints w ((List.range n).map h) (some ⟨b, 0, none⟩) b 0 := by
  refine Blk.ints (t := 3) ?_ fun v hv => ?_
  · have e : iA ((List.range n).map h) = rowF n h := by simp [iA, rowF]
    rw [e]
    exact B
  · obtain ⟨i, hi, rfl⟩ := List.mem_map.1 hv
    have := hb i (List.mem_range.1 hi)
    omega
theorem zF_map (n : Nat) (h : Nat → Int) (i : Nat) (hi : i < n) : zF ((List.range n).map h) i = h i := by
  rw [zF_at _ _ (by simpa using hi)]
  simp
theorem owns_bd {h : Nat → Int} {w hh : Nat} {L : List Sg} (H : (∀ k : Nat, k < 4 * hh → ∀ i : Nat, i < 4 * w → h (4 * w * k + i) = (ownV L (16 * (i : Int) + 7) (16 * (k : Int) + 7) : Int))) (i : Nat) (hi : i < 4 * w * (4 * hh)) : 0 ≤ h i ∧ h i ≤ 255 := by
  have hw : 0 < 4 * w := by
    rcases Nat.eq_zero_or_pos (4 * w) with h0 | h0
    · rw [h0, Nat.zero_mul] at hi; omega
    · exact h0
  have h1 := H (i / (4 * w)) (Nat.div_lt_of_lt_mul hi) (i % (4 * w)) (Nat.mod_lt _ hw)
  rw [Nat.div_add_mod] at h1
  have h2 := ownV_le L (16 * ((i % (4 * w) : Nat) : Int) + 7) (16 * ((i / (4 * w) : Nat) : Int) + 7)
  omega
set_option maxHeartbeats 2000000 in
theorem awake17_any (w : World) : Calls Try.prog 11 #[] w fun e w' => e = .returned (.bool true) ∧ Below w.heap.size w w' := by
  have H0 : Hid (∀ v W, Sgs W v sqL → Calls Try.prog 18 #[v, .int .i64 2, .int .i64 1] W fun e w' => (∃ b h, e = .returned (.tuple #[.slice (some ⟨b, 0, none⟩) 32 32, .int .i64 0]) ∧ Blk w' b (rowF 32 h) 3 ∧ (∀ k : Nat, k < 4 * 1 → ∀ i : Nat, i < 4 * 2 → h (4 * 2 * k + i) = (ownV sqL (16 * (i : Int) + 7) (16 * (k : Int) + 7) : Int))) ∧ Below W.heap.size W w') := Lib.hid fun v W hW => owners_any sqL v 2 1 W hW (by decide) (by decide) ⟨by decide, by decide⟩ ⟨by decide, by decide⟩
  go_enter Try.func11, Try.ntmps11
  go_upto_region 2 with (go_big_may; first
    | (go_at_call 22; (with_reducible refine (square_any _).mono ?_); rintro e W1 ⟨⟨v1, rfl, hS1⟩, k1⟩; have Hw1 := k1; have HS1 := Lib.hid hS1; clear hS1; clear k1)
    | (go_at_call 18; (with_reducible refine (H0.out v1 W1 HS1.out).mono ?_); rintro e W2 ⟨⟨b2, h2, rfl, B2, hd2⟩, k2⟩; have Hw2 := bq_trans Hw1 k2; have HD2 := Lib.hid hd2; clear hd2; clear k2 Hw1))
  have I2 : Ints W2 ((List.range 32).map h2) (some ⟨b2, 0, none⟩) b2 0 := B2.owns fun i hi => owns_bd HD2.out i hi
  have hz : ∀ k, k < 4 → ∀ i, i < 8 → zF ((List.range 32).map h2) (8 * k + i) = if i < 4 then 1 else 0 := fun k hk i hi => by
    rw [zF_map 32 h2 _ (by omega)]
    have h3 := HD2.out k (by omega) i (by omega)
    have h4 := sq_own ⟨k, hk⟩ ⟨i, hi⟩
    rw [show 4 * 2 * k + i = 8 * k + i by omega] at h3
    rw [h3]
    rw [h4]
    split <;> rfl
  have q1 : cov (zF ((List.range 32).map h2)) 2 0 0 1 4 = 16 := by
    rw [cov_congr _ (fun i => if i % 8 < 4 then 1 else 0) 2 0 0 1 4 fun k hk j hj => by
      rw [show (4 * 0 + k) * 4 * 2 + 4 * 0 + j = 8 * k + j by omega, hz k hk j (by omega)]
      have : (8 * k + j) % 8 = j := by omega
      rw [this]]
    decide
  have q2 : cov (zF ((List.range 32).map h2)) 2 1 0 1 4 = 0 := by
    rw [cov_congr _ (fun i => if i % 8 < 4 then 1 else 0) 2 1 0 1 4 fun k hk j hj => by
      rw [show (4 * 0 + k) * 4 * 2 + 4 * 1 + j = 8 * k + (4 + j) by omega, hz k hk (4 + j) (by omega)]
      have : (8 * k + (4 + j)) % 8 = 4 + j := by omega
      rw [this]]
    decide
  have H1 : Hid (∀ W, Below W2.heap.size W2 W → Calls Try.prog 21 #[.slice (some ⟨b2, 0, none⟩) 32 32, .int .i64 2, .int .i64 1, .int .i64 0, .int .i64 0, .int .i64 1] W fun e w' => e = .returned (.int .i64 16) ∧ Below W.heap.size W w') := Lib.hid fun W hW => by
    have h5 := cover_yes ((List.range 32).map h2) b2 0 32 32 2 1 0 0 1 W (I2.keep hW) (by simp) (by omega) (by omega) (by omega) (by omega) (by omega) (by omega) (by omega) (by omega)
    rw [q1] at h5
    exact h5
  have H2 : Hid (∀ W, Below W2.heap.size W2 W → Calls Try.prog 21 #[.slice (some ⟨b2, 0, none⟩) 32 32, .int .i64 2, .int .i64 1, .int .i64 1, .int .i64 0, .int .i64 1] W fun e w' => e = .returned (.int .i64 0) ∧ Below W.heap.size W w') := Lib.hid fun W hW => by
    have h5 := cover_yes ((List.range 32).map h2) b2 0 32 32 2 1 1 0 1 W (I2.keep hW) (by simp) (by omega) (by omega) (by omega) (by omega) (by omega) (by omega) (by omega) (by omega)
    rw [q2] at h5
    exact h5
  have H3 : Hid (∀ v W, Sgs W v sqL → Calls Try.prog 17 #[v, .int .i64 0, .int .i64 7, .int .i64 7] W fun e w' => e = .returned (.int .i64 (-1)) ∧ Below W.heap.size W w') := Lib.hid fun v W hW => by
    have h5 := wound_any sqL v 0 7 7 W hW
    rw [show (if smpB 7 && smpB 7 then wnd sqL 0 7 7 else 0) = (-1 : Int) by decide +kernel] at h5
    exact h5
  clear hz q1 q2 I2 HD2 B2
  go_wp2_with (first
    | (go_at_call 21; (with_reducible refine (H1.out _ (bq_refl _)).mono ?_); rintro e W3 ⟨rfl, k3⟩; have Hw3 := bq_trans Hw2 k3; have Hx3 := bq_trans (bq_refl W2) k3; clear k3 Hw2)
    | (go_at_call 21; (with_reducible refine (H2.out _ Hx3).mono ?_); rintro e W4 ⟨rfl, k4⟩; have Hw4 := bq_trans Hw3 k4; have Hx4 := bq_trans Hx3 k4; clear k4 Hw3 Hx3)
    | (go_at_call 22; (with_reducible refine (square_any _).mono ?_); rintro e W5 ⟨⟨v3, rfl, hS3⟩, k5⟩; have Hw5 := bq_trans Hw4 k5; have Hx5 := bq_trans Hx4 k5; have HS3 := Lib.hid hS3; clear hS3; clear k5 Hw4 Hx4)
    | (go_at_call 17; (with_reducible refine (H3.out v3 _ HS3.out).mono ?_); rintro e W6 ⟨rfl, k6⟩; have Hw6 := bq_trans Hw5 k6; have Hx6 := bq_trans Hx5 k6; clear k6 Hw5 Hx5))
  go_ret
  exact ⟨rfl, Hw6⟩
end Go.Proofs.Ytgopaajmbifbaaa
