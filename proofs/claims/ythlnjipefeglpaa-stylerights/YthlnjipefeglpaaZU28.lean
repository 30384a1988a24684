import Derived.Test.YthlnjipefeglpaaZU27
namespace Go.Proofs.Ythlnjipefeglpaa
open Go.RowKit
set_option linter.unusedVariables false
set_option linter.unusedSimpArgs false
set_option maxRecDepth 100000
theorem zeroFL (w : World) : (zeroValue 28).run Try.prog w = .ok (.agg #[.int .i64 0, .int .i64 0, .int .i64 0, .int .i64 0, .int .i64 0, .int .i64 0, .int .i64 0, .int .i64 0, .int .i64 0, .int .i64 0, .int .i64 0, .int .i64 0, .slice none 0 0, .int .i64 0]) w := Try.zeroValue28 w
theorem zeroSK (w : World) : (zeroValue 30).run Try.prog w = .ok (.agg #[.int .i64 0, .int .i64 0, .int .i64 0, .int .i64 0, .int .i64 0]) w := Try.zeroValue30 w
theorem sizeFL : (Try.prog.info? 28).map (·.size) = some 14 := by kernel_rfl
theorem sizeSK : (Try.prog.info? 30).map (·.size) = some 5 := by kernel_rfl
theorem iL_one (l : List Int) : (iL l).all (·.oneCell') = true := by
  rw [List.all_eq_true]
  intro v hv
  simp only [iL, List.mem_map] at hv
  obtain ⟨z, _, rfl⟩ := hv
  rfl
theorem iLA_one (l : List Int) : (iL l).toArray.all (·.oneCell') = true := by simpa using iL_one l
theorem fillC_one {F : FV} {a : Option Addr} {n c : Nat} : (fillC F (.slice a n c)).toArray.all (·.oneCell') = true := by
  have h1 := iL_one F.c
  have h2 := iL_one F.m
  simp only [fillC, List.all_toArray, List.all_append, h1, h2]
  rfl
theorem slice_one {w : World} {s : Value} {st : List (List Int)} (h : Stops w s st) (F : FV) : (fillC F s).toArray.all (·.oneCell') = true := by
  obtain ⟨a, c, b, o, rfl, _⟩ := h.get
  exact fillC_one
theorem fillA_size {F : FV} (h : F.Fit) (s : Value) : (fillC F s).toArray.size = 14 := by simpa using fillC_len8 h s
theorem iLA_size {l : List Int} (h : l.length = 5) : (iL l).toArray.size = 5 := by simpa [iL_len] using h
set_option maxHeartbeats 4000000 in
theorem rightfills_any (xs : List FV) (v : Value) (w : World) (hx : Fills w v xs) :
    Calls Try.prog 35 #[v, .func (.func 9) #[] #[]] w fun e w' => e = .returned (.bool (decide (xs.length < 16) && xs.all fillOk)) ∧ Below w.heap.size w w' := by
  obtain ⟨pa, pc, pb, po, rfl, la, pget⟩ := hx.get
  have PG := Lib.hid pget
  clear hx pget
  by_cases n8 : xs.length < 16
  rotate_left
  · have e : (decide (xs.length < 16) && xs.all fillOk) = false := by simp [n8]
    have q2 : decide ((15 : Int) < (xs.length : Int)) = true := decide_eq_true (by omega)
    rw [e]
    clear e
    go_enter Try.func35, Try.ntmps35
    go_wp2_with fail
    go_ret
    exact ⟨rfl, bq_refl w⟩
  have q2 : decide ((15 : Int) < (xs.length : Int)) = false := decide_eq_false (by omega)
  have e : (decide (xs.length < 16) && xs.all fillOk) = xs.all fillOk := by rw [decide_eq_true n8]; rfl
  rw [e]
  clear e n8
  go_enter Try.func35, Try.ntmps35
  go_wp2_with fail
  clear q2
  go_loopw [6, 12] (fun _ i wr => RtRel w fillOk xs i wr) (fun _ i _ => xs.length - (intOf i).toNat)
  case atStart => exact ⟨0, by omega, rfl, rfl, bq_refl w⟩
  case round =>
    obtain ⟨k, hk, rfl, hall, hbel⟩ := hrel
    have HA := Lib.hid hall
    have HB := Lib.hid hbel
    clear hall hbel
    by_cases hlt : k < xs.length
    · obtain ⟨rfl, _, cs, _, ⟨hf1, s, rfl, hs1⟩, hrg⟩ := PG.out k hlt
      have rg := rangeAt_keep hrg HB.out
      have hk1 : Stops wr s xs[k].st := Sl.keep num5_lasts hs1 HB.out
      have HC : Hid (∀ W, Below wr.heap.size wr W → Calls Try.prog 9 #[.agg (fillC xs[k] s).toArray] W fun e w' => e = .returned (.bool (fillOk xs[k])) ∧ Below W.heap.size W w') := Lib.hid fun W hW => pfill_any xs[k] s W hf1 (Sl.keep num5_lasts hk1 hW)
      have hsz := size28f hf1 s
      have hn2 := fillA_size hf1 s
      have h1 := slice_one hs1 xs[k]
      clear hf1 hs1 hk1
      have HT := Lib.hid (allT fillOk xs k hlt HA.out)
      have HF := Lib.hid (allF fillOk xs k hlt)
      have i1 : (0 : Int) ≤ (k : Int) := by omega
      have i2 : (k : Int) < (xs.length : Int) := by omega
      clear hrg HA PG
      generalize fillOk xs[k] = q at *
      generalize xs[k] = X at *
      cases q
      · have HL : Hid (xs.all fillOk = false) := Lib.hid (HF.out rfl)
        clear HT HF
        go_wp2_with (first
          | (refine wpList_load_mid rfl 28 _ rfl pb (po + k * 14) rfl (fillC X s) _ rg Try.underlying28 rfl hsz ?_)
          | (refine wl_alloc 28 _ zeroFL rfl rfl ?_; intro W1 bf Bf_1 l1 k1; have gf : wr.heap.size ≤ bf := l1; have Hw1 := k1; clear l1 k1)
          | (refine wl_store 28 14 sizeFL _ _ rfl rfl _ rfl _ rfl _ _ Bf_1 rfl hn2 h1 ?_; intro W2 Bf_2 T2; have Hw2 := T2.below Hw1 gf; clear T2 Bf_1 Hw1)
          | (refine wl_load 28 14 _ Try.underlying28 rfl sizeFL _ rfl rfl _ rfl _ _ Bf_2 hn2 ?_)
          | (go_at_call 9; (with_reducible refine (HC.out _ Hw2).mono ?_); rintro e W3 ⟨rfl, k3⟩; have Bf_3 := Bf_2.keep k3; have Hw3 := bq_trans Hw2 k3; clear k3 Bf_2 Hw2))
        go_ret
        exact ⟨ret_bool HL.out.symm, bq_trans HB.out Hw3⟩
      · have HL := Lib.hid (HT.out rfl)
        clear HT HF
        go_wp2_with (first
          | (refine wpList_load_mid rfl 28 _ rfl pb (po + k * 14) rfl (fillC X s) _ rg Try.underlying28 rfl hsz ?_)
          | (refine wl_alloc 28 _ zeroFL rfl rfl ?_; intro W1 bf Bf_1 l1 k1; have gf : wr.heap.size ≤ bf := l1; have Hw1 := k1; clear l1 k1)
          | (refine wl_store 28 14 sizeFL _ _ rfl rfl _ rfl _ rfl _ _ Bf_1 rfl hn2 h1 ?_; intro W2 Bf_2 T2; have Hw2 := T2.below Hw1 gf; clear T2 Bf_1 Hw1)
          | (refine wl_load 28 14 _ Try.underlying28 rfl sizeFL _ rfl rfl _ rfl _ _ Bf_2 hn2 ?_)
          | (go_at_call 9; (with_reducible refine (HC.out _ Hw2).mono ?_); rintro e W3 ⟨rfl, k3⟩; have Bf_3 := Bf_2.keep k3; have Hw3 := bq_trans Hw2 k3; clear k3 Bf_2 Hw2))
        go_roundw
        case rel => exact ⟨k + 1, by omega, by go_num, HL.out, bq_trans HB.out Hw3⟩
        case measure => simp [intOf]; omega
    · have e : xs.all fillOk = true := by
        have := HA.out
        rw [List.take_of_length_le (by omega)] at this
        exact this
      have HL := Lib.hid e
      clear e HA
      go_wp2_with fail
      go_ret
      exact ⟨ret_bool HL.out.symm, HB.out⟩
set_option maxHeartbeats 4000000 in
theorem rightlines_any (xs : List (List Int)) (v : Value) (w : World) (hx : Strokes w v xs) :
    Calls Try.prog 36 #[v, .func (.func 11) #[] #[]] w fun e w' => e = .returned (.bool (decide (xs.length < 16) && xs.all strokeL)) ∧ Below w.heap.size w w' := by
  obtain ⟨pa, pc, pb, po, rfl, la, pget⟩ := hx.get
  have PG := Lib.hid pget
  clear hx pget
  by_cases n8 : xs.length < 16
  rotate_left
  · have e : (decide (xs.length < 16) && xs.all strokeL) = false := by simp [n8]
    have q2 : decide ((15 : Int) < (xs.length : Int)) = true := decide_eq_true (by omega)
    rw [e]
    clear e
    go_enter Try.func36, Try.ntmps36
    go_wp2_with fail
    go_ret
    exact ⟨rfl, bq_refl w⟩
  have q2 : decide ((15 : Int) < (xs.length : Int)) = false := decide_eq_false (by omega)
  have e : (decide (xs.length < 16) && xs.all strokeL) = xs.all strokeL := by rw [decide_eq_true n8]; rfl
  rw [e]
  clear e n8
  go_enter Try.func36, Try.ntmps36
  go_wp2_with fail
  clear q2
  go_loopw [6, 12] (fun _ i wr => RtRel w strokeL xs i wr) (fun _ i _ => xs.length - (intOf i).toNat)
  case atStart => exact ⟨0, by omega, rfl, rfl, bq_refl w⟩
  case round =>
    obtain ⟨k, hk, rfl, hall, hbel⟩ := hrel
    have HA := Lib.hid hall
    have HB := Lib.hid hbel
    clear hall hbel
    by_cases hlt : k < xs.length
    · obtain ⟨rfl, _, cs, _, ⟨h5, rfl, hb5⟩, hrg⟩ := PG.out k hlt
      have rg := rangeAt_keep hrg HB.out
      have HC : Hid (∀ W, Below wr.heap.size wr W → Calls Try.prog 11 #[.agg (iL xs[k]).toArray] W fun e w' => e = .returned (.bool (strokeL xs[k])) ∧ Below W.heap.size W w') := Lib.hid fun W hW => pstroke_l xs[k] W h5 hb5
      have hsz := size30f h5
      have hn2 := iLA_size h5
      have h1 := iLA_one xs[k]
      clear h5 hb5
      have HT := Lib.hid (allT strokeL xs k hlt HA.out)
      have HF := Lib.hid (allF strokeL xs k hlt)
      have i1 : (0 : Int) ≤ (k : Int) := by omega
      have i2 : (k : Int) < (xs.length : Int) := by omega
      clear hrg HA PG
      generalize strokeL xs[k] = q at *
      generalize xs[k] = X at *
      cases q
      · have HL : Hid (xs.all strokeL = false) := Lib.hid (HF.out rfl)
        clear HT HF
        go_wp2_with (first
          | (refine wpList_load_mid rfl 30 _ rfl pb (po + k * 5) rfl (iL X) _ rg Try.underlying30 rfl hsz ?_)
          | (refine wl_alloc 30 _ zeroSK rfl rfl ?_; intro W1 bf Bf_1 l1 k1; have gf : wr.heap.size ≤ bf := l1; have Hw1 := k1; clear l1 k1)
          | (refine wl_store 30 5 sizeSK _ _ rfl rfl _ rfl _ rfl _ _ Bf_1 rfl hn2 h1 ?_; intro W2 Bf_2 T2; have Hw2 := T2.below Hw1 gf; clear T2 Bf_1 Hw1)
          | (refine wl_load 30 5 _ Try.underlying30 rfl sizeSK _ rfl rfl _ rfl _ _ Bf_2 hn2 ?_)
          | (go_at_call 11; (with_reducible refine (HC.out _ Hw2).mono ?_); rintro e W3 ⟨rfl, k3⟩; have Bf_3 := Bf_2.keep k3; have Hw3 := bq_trans Hw2 k3; clear k3 Bf_2 Hw2))
        go_ret
        exact ⟨ret_bool HL.out.symm, bq_trans HB.out Hw3⟩
      · have HL := Lib.hid (HT.out rfl)
        clear HT HF
        go_wp2_with (first
          | (refine wpList_load_mid rfl 30 _ rfl pb (po + k * 5) rfl (iL X) _ rg Try.underlying30 rfl hsz ?_)
          | (refine wl_alloc 30 _ zeroSK rfl rfl ?_; intro W1 bf Bf_1 l1 k1; have gf : wr.heap.size ≤ bf := l1; have Hw1 := k1; clear l1 k1)
          | (refine wl_store 30 5 sizeSK _ _ rfl rfl _ rfl _ rfl _ _ Bf_1 rfl hn2 h1 ?_; intro W2 Bf_2 T2; have Hw2 := T2.below Hw1 gf; clear T2 Bf_1 Hw1)
          | (refine wl_load 30 5 _ Try.underlying30 rfl sizeSK _ rfl rfl _ rfl _ _ Bf_2 hn2 ?_)
          | (go_at_call 11; (with_reducible refine (HC.out _ Hw2).mono ?_); rintro e W3 ⟨rfl, k3⟩; have Bf_3 := Bf_2.keep k3; have Hw3 := bq_trans Hw2 k3; clear k3 Bf_2 Hw2))
        go_roundw
        case rel => exact ⟨k + 1, by omega, by go_num, HL.out, bq_trans HB.out Hw3⟩
        case measure => simp [intOf]; omega
    · have e : xs.all strokeL = true := by
        have := HA.out
        rw [List.take_of_length_le (by omega)] at this
        exact this
      have HL := Lib.hid e
      clear e HA
      go_wp2_with fail
      go_ret
      exact ⟨ret_bool HL.out.symm, HB.out⟩
theorem listsOk_eq (Fs : List FV) (xs : List (List Int)) : listsOk Fs xs = ((decide (Fs.length < 16) && Fs.all fillOk) && (decide (xs.length < 16) && xs.all strokeL)) := by
  unfold listsOk
  generalize Fs.all fillOk = a
  generalize xs.all strokeL = b
  cases a <;> cases b <;> simp
theorem pright_any (Fs : List FV) (xs : List (List Int)) (fv sv : Value) (w : World) (hf : Fills w fv Fs) (hs : Strokes w sv xs) :
    Calls Try.prog 18 #[fv, sv] w fun e w' => e = .returned (.bool (listsOk Fs xs)) ∧ Below w.heap.size w w' := by
  have H1 := Lib.hid (fun W (hW : Below w.heap.size w W) => rightfills_any Fs fv W (Sl.keep fill_lasts hf hW))
  have H2 := Lib.hid (fun W (hW : Below w.heap.size w W) => rightlines_any xs sv W (Sl.keep num5_lasts hs hW))
  rw [listsOk_eq]
  clear hf hs
  generalize (decide (Fs.length < 16) && Fs.all fillOk) = p at *
  generalize (decide (xs.length < 16) && xs.all strokeL) = q at *
  cases p
  · go_enter Try.func18, Try.ntmps18
    go_wp2_with (first
      | (go_at_call 35; (with_reducible refine (H1.out _ (bq_refl w)).mono ?_); rintro e W1 ⟨rfl, k1⟩; have Hw1 := k1; clear k1))
    go_ret
    exact ⟨rfl, Hw1⟩
  · go_enter Try.func18, Try.ntmps18
    go_wp2_with (first
      | (go_at_call 35; (with_reducible refine (H1.out _ (bq_refl w)).mono ?_); rintro e W1 ⟨rfl, k1⟩; have Hw1 := k1; clear k1)
      | (go_at_call 36; (with_reducible refine (H2.out _ Hw1).mono ?_); rintro e W2 ⟨rfl, k2⟩; have Hw2 := bq_trans Hw1 k2; clear k2 Hw1))
    go_ret
    exact ⟨rfl, Hw2⟩
end Go.Proofs.Ythlnjipefeglpaa
