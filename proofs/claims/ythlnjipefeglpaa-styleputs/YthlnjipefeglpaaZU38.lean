import Derived.Test.YthlnjipefeglpaaZU24
import Derived.Test.YthlnjipefeglpaaZU37
namespace Go.Proofs.Ythlnjipefeglpaa
open Go.RowKit
set_option linter.unusedVariables false
set_option linter.unusedSimpArgs false
set_option maxRecDepth 100000
def by4L : List Int → List UInt8
  | [r, g, b, a] => by4 r g b a
  | _ => []
def matB : List Int → List UInt8
  | [a, b, c, d, x, y] => F.bys (matF a b c d x y)
  | _ => []
def stopB (x : List Int) : List UInt8 := by1 (x.getD 0 0).toNat ++ by4L (x.drop 1)
def lineB (x : List Int) : List UInt8 := by2 (x.getD 0 0).toNat ++ by4L (x.drop 1)
def fillB (F : FV) : List UInt8 := by1 F.k.toNat ++ (if F.k = 0 then by4L F.c else if F.k = 64 ∨ F.k = 65 then by2 F.id.toNat ++ matB F.m else matB F.m ++ by1 (64 * F.sp.toNat + F.st.length) ++ F.st.flatMap stopB)
def listB (Fs : List FV) (xs : List (List Int)) : List UInt8 := by1 Fs.length ++ Fs.flatMap fillB ++ by1 xs.length ++ xs.flatMap lineB
theorem zero28f (w : World) : (zeroValue 28).run Try.prog w = .ok (.agg #[.int .i64 0, .int .i64 0, .int .i64 0, .int .i64 0, .int .i64 0, .int .i64 0, .int .i64 0, .int .i64 0, .int .i64 0, .int .i64 0, .int .i64 0, .int .i64 0, .slice none 0 0, .int .i64 0]) w := Try.zeroValue28 w
theorem size28g : (Try.prog.info? 28).map (·.size) = some 14 := by kernel_rfl
theorem by4L_len (l : List Int) : (by4L l).length ≤ 4 := by
  unfold by4L; split <;> simp [by4]
theorem stop_ok {st : List (List Int)} {p : Int} (h : stopsFrom p st = true) (hp : 0 ≤ p) : ∀ x ∈ st, 0 ≤ x.getD 0 0 ∧ x.getD 0 0 ≤ 255 ∧ rgbaL (x.drop 1) = true := by
  induction st generalizing p with
  | nil => intro x hx; simp at hx
  | cons s st ih =>
    simp only [stopsFrom, Bool.and_eq_true, decide_eq_true_eq] at h
    intro x hx
    rcases List.mem_cons.1 hx with rfl | hx
    · exact ⟨by omega, h.1.1.2, h.1.2⟩
    · exact ih h.2 (by omega) x hx
theorem flat_take {α : Type} (f : α → List UInt8) (l : List α) (k : Nat) (h : k < l.length) : (l.take (k + 1)).flatMap f = (l.take k).flatMap f ++ f l[k] := by
  rw [List.take_succ_eq_append_getElem h, List.flatMap_append]; simp
theorem flat_len {α : Type} (f : α → List UInt8) (l : List α) (n : Nat) (h : ∀ x ∈ l, (f x).length ≤ n) : (l.flatMap f).length ≤ l.length * n := by
  induction l with
  | nil => simp
  | cons x l ih =>
    rw [List.flatMap_cons, List.length_append, List.length_cons, Nat.add_mul]
    have := ih fun y hy => h y (by simp [hy])
    have := h x (by simp)
    omega
theorem stopB_len (x : List Int) : (stopB x).length ≤ 5 := by
  have := by4L_len (x.drop 1)
  unfold stopB by1
  simp only [List.length_append, List.length_cons, List.length_nil]
  omega
theorem lineB_len (x : List Int) : (lineB x).length ≤ 6 := by
  have := by4L_len (x.drop 1)
  unfold lineB by2
  simp only [List.length_append, List.length_cons, List.length_nil]
  omega
theorem cat_bs (s : ByteArray) (a b : List UInt8) : s ++ bs a ++ bs b = s ++ bs (a ++ b) := by rw [ByteArray.append_assoc, bs_append]
theorem mat_bytes9 {a b c d x y : Int} (h : matOk a b c d x y = true) : (F.bys (matF a b c d x y)).length ≤ 20 := by
  have := (matFacts h).l5
  rw [F.bys_len]; omega
theorem bs_nil9 (v : ByteArray) : v ++ bs (([] : List (List Int)).flatMap stopB) = v := by
  apply ByteArray.ext
  rw [ByteArray.data_append]
  simp [bs]
def putP (Fs : List FV) (k : Nat) : List UInt8 := by1 Fs.length ++ (Fs.take k).flatMap fillB
theorem putP_next (Fs : List FV) (k : Nat) (h : k < Fs.length) : putP Fs (k + 1) = putP Fs k ++ fillB Fs[k] := by
  unfold putP
  rw [flat_take fillB Fs k h, List.append_assoc]
theorem fillB_len {F : FV} (h : fillOk F = true) (hF : F.Fit) : (fillB F).length ≤ 70 := by
  obtain ⟨k, c, m, sp, st, id⟩ := F
  obtain ⟨_, lc, lm, _, _, _, _⟩ := hF
  dsimp only at lc lm
  obtain ⟨a, b, c', d, x, y, rfl⟩ := list6 m lm
  have h4 := by4L_len c
  have hs := flat_len stopB st 5 fun x _ => stopB_len x
  unfold fillOk at h
  unfold fillB
  dsimp only at h ⊢
  have l1 : ∀ n, (by1 n).length = 1 := fun n => rfl
  have l2 : ∀ n, (by2 n).length = 2 := fun n => rfl
  split at h
  · rename_i hk
    rw [if_pos hk, List.length_append, l1]; omega
  · rename_i hk
    rw [if_neg hk]
    split at h
    · rename_i hk2
      rw [if_pos hk2]
      simp only [Bool.and_eq_true] at h
      have hm : matOk a b c' d x y = true := h.2
      have := mat_bytes9 hm
      show (by1 _ ++ (by2 _ ++ F.bys (matF a b c' d x y))).length ≤ 70
      rw [List.length_append, List.length_append, l1, l2]; omega
    · rename_i hk2
      rw [if_neg hk2]
      split at h
      · simp only [Bool.and_eq_true, decide_eq_true_eq] at h
        have hm : matOk a b c' d x y = true := h.2
        have hn : st.length < 9 := h.1.2
        have := mat_bytes9 hm
        show (by1 _ ++ (F.bys (matF a b c' d x y) ++ by1 _ ++ st.flatMap stopB)).length ≤ 70
        rw [List.length_append, List.length_append, List.length_append, l1, l1]; omega
      · cases h
def PuRel (w : World) (s : ByteArray) (Fs : List FV) (z i : Value) (wr : World) : Prop := ∃ k : Nat, k ≤ Fs.length ∧ i = .int .i64 k ∧ z = .string (s ++ bs (putP Fs k)) ∧ Below w.heap.size w wr
def StRel (w : World) (bf : Nat) (cs : Array Value) (v : ByteArray) (st : List (List Int)) (z i : Value) (wr : World) : Prop := ∃ j : Nat, j ≤ st.length ∧ i = .int .i64 j ∧ z = .string (v ++ bs ((st.take j).flatMap stopB)) ∧ Blk wr bf cs 28 ∧ Below w.heap.size w wr
def LnRel (w : World) (v : ByteArray) (xs : List (List Int)) (z i : Value) (wr : World) : Prop := ∃ j : Nat, j ≤ xs.length ∧ i = .int .i64 j ∧ z = .string (v ++ bs ((xs.take j).flatMap lineB)) ∧ Below w.heap.size w wr
theorem bs_nil9' (v : ByteArray) : v ++ bs (([] : List (List Int)).flatMap lineB) = v := by
  apply ByteArray.ext
  rw [ByteArray.data_append]
  simp [bs]
set_option maxHeartbeats 16000000 in
theorem refput8_any (s : ByteArray) (Fs : List FV) (xs : List (List Int)) (fv sv : Value) (w : World) (hs : s.size ≤ 1024) (hf : Fills w fv Fs) (hx : Strokes w sv xs) (hok : listsOk Fs xs = true) :
    Calls Try.prog 19 #[.string s, fv, sv] w fun e w' => e = .returned (.string (s ++ bs (listB Fs xs))) ∧ Below w.heap.size w w' := by
  obtain ⟨fa, fc, fb, fo, rfl, fl, fget⟩ := hf.get
  obtain ⟨xa, xc, xb, xo, rfl, xl, xget⟩ := hx.get
  have FG := Lib.hid fget
  have XG := Lib.hid xget
  unfold listsOk at hok
  simp only [Bool.and_eq_true, decide_eq_true_eq, List.all_eq_true] at hok
  obtain ⟨⟨⟨okF, okX⟩, n16⟩, x16⟩ := hok
  have OKF := Lib.hid okF
  have OKX := Lib.hid okX
  have HL1 : Hid (∀ W, Calls Try.prog 37 #[.int .i64 (Fs.length : Int)] W fun e w' => e = .returned (.string (bs (by1 Fs.length))) ∧ Below W.heap.size W w') := Lib.hid fun W => refone_any Fs.length W (by omega)
  have hz1 : (bs (by1 Fs.length)).size ≤ 1 := by rw [bs_size]; exact Nat.le_refl _
  have HZ0 : Hid (s ++ bs (by1 Fs.length) = s ++ bs (putP Fs 0)) := Lib.hid (by unfold putP; rw [List.take_zero]; simp)
  clear hf hx fget xget okF okX
  generalize bs (by1 Fs.length) = t0 at *
  go_enter Try.func19, Try.ntmps19
  go_wp2_with (go_at_call 37; (with_reducible refine (HL1.out _).mono ?_); rintro e w1 ⟨rfl, k1⟩)
  have HB0 := Lib.hid k1
  clear k1 HL1 hz1
  go_loopw [0, 7, 8, 9] (fun z i _ _ wr => PuRel w s Fs z i wr) (fun _ i _ _ _ => Fs.length - (intOf i).toNat)
  case atStart => exact ⟨0, by omega, rfl, congrArg Value.string HZ0.out, HB0.out⟩
  case round =>
    obtain ⟨k, hk, rfl, rfl, hbel⟩ := hrel
    have HB := Lib.hid hbel
    clear hbel HZ0 HB0
    by_cases hlt : k < Fs.length
    · obtain ⟨rfl, hblt, cs, hcs, ⟨hfit, sl, rfl, hst⟩, hrg⟩ := FG.out k hlt
      have rg := rangeAt_keep hrg HB.out
      have hst' : Stops w sl Fs[k].st := hst
      have hsz := size28f hfit sl
      have HOK := Lib.hid (OKF.out Fs[k] (List.getElem_mem hlt))
      have HNext := Lib.hid (putP_next Fs k hlt)
      obtain ⟨u, hu⟩ : ∃ u, u = s ++ bs (putP Fs k) := ⟨_, rfl⟩
      have HU := Lib.hid hu
      have hsu : u.size ≤ 3000 := by
        have h1 : (putP Fs k).length ≤ 1 + k * 70 := by
          unfold putP
          rw [List.length_append]
          have e1 : (by1 Fs.length).length = 1 := rfl
          have htl : (Fs.take k).length = k := by rw [List.length_take]; omega
          have : ((Fs.take k).flatMap fillB).length ≤ (Fs.take k).length * 70 := flat_len fillB _ 70 fun F hF => by
            obtain ⟨i, hi, hFi⟩ := List.getElem_of_mem (List.mem_of_mem_take hF)
            obtain ⟨_, _, _, _, ⟨hfi, _⟩, _⟩ := FG.out i hi
            rw [hFi] at hfi
            exact fillB_len (OKF.out F (List.mem_of_mem_take hF)) hfi
          rw [htl] at this
          omega
        rw [hu, ByteArray.size_append, bs_size]
        omega
      rw [← hu]
      clear hu hrg hst hcs
      generalize Fs[k] = X at *
      obtain ⟨kv, c, m, sp, st, id⟩ := X
      obtain ⟨_, lc, lm, _, _, _, _⟩ := hfit
      dsimp only at lc lm hst'
      obtain ⟨r, g, b, a, rfl⟩ := list4 c lc
      obtain ⟨m0, m1, m2, m3, m4, m5, rfl⟩ := list6 m lm
      obtain ⟨sa, sc, sb, so, rfl, sln, sget⟩ := hst'.get
      clear lc lm hst'
      by_cases k0 : kv = 0
      · subst k0
        clear sget
        have HO : Hid (∀ W, Calls Try.prog 37 #[.int .i64 0] W fun e w' => e = .returned (.string (bs (by1 0))) ∧ Below W.heap.size W w') := Lib.hid fun W => refone_any 0 W (by omega)
        have ht1 : (bs (by1 0)).size ≤ 1 := by rw [bs_size]; exact Nat.le_refl _
        have HP : Hid (∀ W, Calls Try.prog 38 #[.string (u ++ bs (by1 0)), .agg #[.int .i64 r, .int .i64 g, .int .i64 b, .int .i64 a]] W fun e w' => e = .returned (.string (u ++ bs (by1 0) ++ bs (by4 r g b a))) ∧ Below W.heap.size W w') := Lib.hid fun W => refputrgba_ok _ r g b a W (by rw [ByteArray.size_append]; omega) (by
          have := HOK.out
          unfold fillOk at this
          simp only [if_true, Bool.and_eq_true] at this
          exact this.2)
        have HN : Hid (Value.string (u ++ bs (by1 0) ++ bs (by4 r g b a)) = .string (s ++ bs (putP Fs (k + 1)))) := Lib.hid (by
          rw [HU.out, cat_bs, cat_bs, HNext.out]
          exact congrArg (fun l => Value.string (s ++ bs l)) (List.append_assoc _ _ _))
        generalize bs (by1 0) = t1 at *
        generalize bs (by4 r g b a) = t2 at *
        go_upto_region 7 with (go_big_may; first
          | (refine wpList_load_mid rfl 28 _ rfl fb (fo + k * 14) rfl (fillC ⟨0, [r, g, b, a], [m0, m1, m2, m3, m4, m5], sp, st, id⟩ (.slice sa st.length sc)) _ rg Try.underlying28 rfl hsz ?_)
          | (refine wl_alloc 28 _ zero28f rfl rfl ?_; intro W1 bf Bf_1 l1 k1; have gf : wr.heap.size ≤ bf := l1; have Hw1 := k1; clear l1 k1)
          | (refine wl_store 28 14 size28g _ _ rfl rfl _ rfl #[.int .i64 0, .int .i64 r, .int .i64 g, .int .i64 b, .int .i64 a, .int .i64 m0, .int .i64 m1, .int .i64 m2, .int .i64 m3, .int .i64 m4, .int .i64 m5, .int .i64 sp, .slice sa st.length sc, .int .i64 id] rfl _ _ Bf_1 rfl rfl (by kernel_rfl) ?_; intro W2 Bf_2 T2; have Hw2 := T2.below Hw1 gf; clear T2 Bf_1 Hw1; have cf_0_2 : W2.cell? ⟨bf, 0, none⟩ = some (.int .i64 0) := Bf_2.cell 0)
          | (go_at_call 37; (with_reducible refine (HO.out _).mono ?_); rintro e W3 ⟨rfl, k3⟩; have Bf_3 := Bf_2.keep k3; have Hw3 := bq_trans Hw2 k3; clear k3 Bf_2 cf_0_2 Hw2))
        have cf0_3 : W3.cell? ⟨bf, 0, none⟩ = some (.int .i64 0) := Bf_3.cell 0
        have cf1_3 : W3.cell? ⟨bf, 1, none⟩ = some (.int .i64 r) := Bf_3.cell 1
        have cf2_3 : W3.cell? ⟨bf, 2, none⟩ = some (.int .i64 g) := Bf_3.cell 2
        have cf3_3 : W3.cell? ⟨bf, 3, none⟩ = some (.int .i64 b) := Bf_3.cell 3
        have cf4_3 : W3.cell? ⟨bf, 4, none⟩ = some (.int .i64 a) := Bf_3.cell 4
        go_wp2_with (first
          | (go_at_call 38; (with_reducible refine (HP.out _).mono ?_); rintro e W4 ⟨rfl, k4⟩; have Bf_4 := Bf_3.keep k4; have Hw4 := bq_trans Hw3 k4; clear k4 Bf_3 Hw3; have cf_0_4 : W4.cell? ⟨bf, 0, none⟩ = some (.int .i64 0) := Bf_4.cell 0))
        go_roundw
        case rel => exact ⟨k + 1, by omega, by go_num, HN.out, bq_trans HB.out Hw4⟩
        case measure => simp [intOf]; omega
      by_cases k64 : kv = 64
      · subst k64
        clear sget
        have HO : Hid (∀ W, Calls Try.prog 37 #[.int .i64 64] W fun e w' => e = .returned (.string (bs (by1 64))) ∧ Below W.heap.size W w') := Lib.hid fun W => refone_any 64 W (by omega)
        have ht1 : (bs (by1 64)).size ≤ 1 := by rw [bs_size]; exact Nat.le_refl _
        have hok : (decide (0 ≤ id) = true ∧ decide (id < 65536) = true) ∧ matOk m0 m1 m2 m3 m4 m5 = true := by
          have := HOK.out
          unfold fillOk at this
          rw [if_neg (show ¬ ((64 : Int) = 0) by decide), if_pos (show ((64 : Int) = 64 ∨ (64 : Int) = 65) by decide)] at this
          simp only [Bool.and_eq_true] at this
          exact ⟨⟨this.1.1.2, this.1.2⟩, this.2⟩
        simp only [decide_eq_true_eq] at hok
        obtain ⟨i, rfl⟩ : ∃ i : Nat, id = (i : Int) := ⟨id.toNat, by omega⟩
        have HT2 : Hid (∀ W, Calls Try.prog 40 #[.int .i64 (i : Int)] W fun e w' => e = .returned (.string (bs (by2 i))) ∧ Below W.heap.size W w') := Lib.hid fun W => reftwo_any i W (by omega)
        have ht2 : (bs (by2 i)).size ≤ 2 := by rw [bs_size]; exact Nat.le_refl _
        have HM : Hid (∀ W, Calls Try.prog 39 #[.string (u ++ bs (by1 64) ++ bs (by2 i)), .agg #[.int .i64 m0, .int .i64 m1, .int .i64 m2, .int .i64 m3, .int .i64 m4, .int .i64 m5]] W fun e w' => e = .returned (.string (u ++ bs (by1 64) ++ bs (by2 i) ++ bs (F.bys (matF m0 m1 m2 m3 m4 m5)))) ∧ Below W.heap.size W w') := Lib.hid fun W => refputmatrix_ok _ m0 m1 m2 m3 m4 m5 W (by rw [ByteArray.size_append, ByteArray.size_append]; omega) hok.2
        have HN : Hid (Value.string (u ++ bs (by1 64) ++ bs (by2 i) ++ bs (F.bys (matF m0 m1 m2 m3 m4 m5))) = .string (s ++ bs (putP Fs (k + 1)))) := Lib.hid (by
          rw [HU.out, cat_bs, cat_bs, cat_bs, HNext.out]
          exact congrArg (fun l => Value.string (s ++ bs l)) (show _ = putP Fs k ++ (by1 64 ++ (by2 i ++ F.bys (matF m0 m1 m2 m3 m4 m5))) by simp only [List.append_assoc]))
        have hsum : (u ++ bs (by1 64)).size ≤ 4000 := by rw [ByteArray.size_append]; omega
        generalize bs (by1 64) = t1 at *
        generalize bs (by2 i) = t2 at *
        generalize bs (F.bys (matF m0 m1 m2 m3 m4 m5)) = t3 at *
        go_upto_region 7 with (go_big_may; first
          | (refine wpList_load_mid rfl 28 _ rfl fb (fo + k * 14) rfl (fillC ⟨64, [r, g, b, a], [m0, m1, m2, m3, m4, m5], sp, st, (i : Int)⟩ (.slice sa st.length sc)) _ rg Try.underlying28 rfl hsz ?_)
          | (refine wl_alloc 28 _ zero28f rfl rfl ?_; intro W1 bf Bf_1 l1 k1; have gf : wr.heap.size ≤ bf := l1; have Hw1 := k1; clear l1 k1)
          | (refine wl_store 28 14 size28g _ _ rfl rfl _ rfl #[.int .i64 64, .int .i64 r, .int .i64 g, .int .i64 b, .int .i64 a, .int .i64 m0, .int .i64 m1, .int .i64 m2, .int .i64 m3, .int .i64 m4, .int .i64 m5, .int .i64 sp, .slice sa st.length sc, .int .i64 (i : Int)] rfl _ _ Bf_1 rfl rfl (by kernel_rfl) ?_; intro W2 Bf_2 T2; have Hw2 := T2.below Hw1 gf; clear T2 Bf_1 Hw1; have cf_0_2 : W2.cell? ⟨bf, 0, none⟩ = some (.int .i64 64) := Bf_2.cell 0)
          | (go_at_call 37; (with_reducible refine (HO.out _).mono ?_); rintro e W3 ⟨rfl, k3⟩; have Bf_3 := Bf_2.keep k3; have Hw3 := bq_trans Hw2 k3; clear k3 Bf_2 cf_0_2 Hw2))
        have cf0_3 : W3.cell? ⟨bf, 0, none⟩ = some (.int .i64 64) := Bf_3.cell 0
        go_upto_region 10 with (fail)
        have hnl : ¬ 9223372036854775807 < u.size + t1.size + t2.size := by omega
        refine Det.wp_region_det (S := fun w' => Below W3.heap.size W3 w') (by kernel_rfl) (by kernel_rfl) (bq_drew (bq_refl _)) ?_
        refine Det.det_take (v := ?_) (by rfl) ?_ ?_
        rotate_left
        · (intro w hSw; go_simp; try with_reducible rfl)
        try simp only [Act.put, List.setIfInBounds_toArray, List.set_cons_zero, List.set_cons_succ]
        refine Det.det_take (v := ?_) (by rfl) ?_ ?_
        rotate_left
        · (intro w hSw; go_simp; try with_reducible rfl)
        try simp only [Act.put, List.setIfInBounds_toArray, List.set_cons_zero, List.set_cons_succ]
        refine Det.det_take (v := ?_) (by rfl) ?_ ?_
        rotate_left
        · (intro w hSw; have cc := (Bf_3.keep hSw).cell 13; go_simp; try with_reducible rfl)
        try simp only [Act.put, List.setIfInBounds_toArray, List.set_cons_zero, List.set_cons_succ]
        refine Det.det_call (f := 40) (args := #[.int .i64 (i : Int)]) (v := .string t2) (by rfl) ?_ (fun w hS => (HT2.out w).mono fun e w' ⟨h1, h2⟩ => ⟨h1, bq_trans hS h2⟩) ?_
        · (intro w hSw; go_simp)
        try simp only [Act.put, List.setIfInBounds_toArray, List.set_cons_zero, List.set_cons_succ]
        refine Det.det_take (v := ?_) (by rfl) ?_ ?_
        rotate_left
        · (intro w hSw; go_simp; try with_reducible rfl)
        try simp only [Act.put, List.setIfInBounds_toArray, List.set_cons_zero, List.set_cons_succ]
        refine Det.det_take (v := ?_) (by rfl) ?_ ?_
        rotate_left
        · (intro w hSw; go_simp; try with_reducible rfl)
        try simp only [Act.put, List.setIfInBounds_toArray, List.set_cons_zero, List.set_cons_succ]
        refine Det.det_take (v := ?_) (by rfl) ?_ ?_
        rotate_left
        · (intro w hSw; have cc5 := (Bf_3.keep hSw).cell 5; have cc6 := (Bf_3.keep hSw).cell 6; have cc7 := (Bf_3.keep hSw).cell 7; have cc8 := (Bf_3.keep hSw).cell 8; have cc9 := (Bf_3.keep hSw).cell 9; have cc10 := (Bf_3.keep hSw).cell 10; go_simp; try with_reducible rfl)
        try simp only [Act.put, List.setIfInBounds_toArray, List.set_cons_zero, List.set_cons_succ]
        refine Det.det_call (f := 39) (args := #[.string (u ++ t1 ++ t2), .agg #[.int .i64 m0, .int .i64 m1, .int .i64 m2, .int .i64 m3, .int .i64 m4, .int .i64 m5]]) (v := .string (u ++ t1 ++ t2 ++ t3)) (by rfl) ?_ (fun w hS => (HM.out w).mono fun e w' ⟨h1, h2⟩ => ⟨h1, bq_trans hS h2⟩) ?_
        · (intro w hSw; go_simp)
        try simp only [Act.put, List.setIfInBounds_toArray, List.set_cons_zero, List.set_cons_succ]
        refine Det.det_take (v := ?_) (by rfl) ?_ ?_
        rotate_left
        · (intro w hSw; go_simp; try with_reducible rfl)
        try simp only [Act.put, List.setIfInBounds_toArray, List.set_cons_zero, List.set_cons_succ]
        refine Det.det_nil (fun W4 k4 => ?_)
        have Bf_4 := Bf_3.keep k4
        have Hw4 := bq_trans Hw3 k4
        clear k4 Bf_3 Hw3
        have cf0_4 : W4.cell? ⟨bf, 0, none⟩ = some (.int .i64 64) := Bf_4.cell 0
        go_wp2_with fail
        go_roundw
        case rel => exact ⟨k + 1, by omega, by go_num, HN.out, bq_trans HB.out Hw4⟩
        case measure => simp [intOf]; omega
      by_cases k65 : kv = 65
      · subst k65
        clear sget
        have HO : Hid (∀ W, Calls Try.prog 37 #[.int .i64 65] W fun e w' => e = .returned (.string (bs (by1 65))) ∧ Below W.heap.size W w') := Lib.hid fun W => refone_any 65 W (by omega)
        have ht1 : (bs (by1 65)).size ≤ 1 := by rw [bs_size]; exact Nat.le_refl _
        have hok : (decide (0 ≤ id) = true ∧ decide (id < 65536) = true) ∧ matOk m0 m1 m2 m3 m4 m5 = true := by
          have := HOK.out
          unfold fillOk at this
          rw [if_neg (show ¬ ((65 : Int) = 0) by decide), if_pos (show ((65 : Int) = 64 ∨ (65 : Int) = 65) by decide)] at this
          simp only [Bool.and_eq_true] at this
          exact ⟨⟨this.1.1.2, this.1.2⟩, this.2⟩
        simp only [decide_eq_true_eq] at hok
        obtain ⟨i, rfl⟩ : ∃ i : Nat, id = (i : Int) := ⟨id.toNat, by omega⟩
        have HT2 : Hid (∀ W, Calls Try.prog 40 #[.int .i64 (i : Int)] W fun e w' => e = .returned (.string (bs (by2 i))) ∧ Below W.heap.size W w') := Lib.hid fun W => reftwo_any i W (by omega)
        have ht2 : (bs (by2 i)).size ≤ 2 := by rw [bs_size]; exact Nat.le_refl _
        have HM : Hid (∀ W, Calls Try.prog 39 #[.string (u ++ bs (by1 65) ++ bs (by2 i)), .agg #[.int .i64 m0, .int .i64 m1, .int .i64 m2, .int .i64 m3, .int .i64 m4, .int .i64 m5]] W fun e w' => e = .returned (.string (u ++ bs (by1 65) ++ bs (by2 i) ++ bs (F.bys (matF m0 m1 m2 m3 m4 m5)))) ∧ Below W.heap.size W w') := Lib.hid fun W => refputmatrix_ok _ m0 m1 m2 m3 m4 m5 W (by rw [ByteArray.size_append, ByteArray.size_append]; omega) hok.2
        have HN : Hid (Value.string (u ++ bs (by1 65) ++ bs (by2 i) ++ bs (F.bys (matF m0 m1 m2 m3 m4 m5))) = .string (s ++ bs (putP Fs (k + 1)))) := Lib.hid (by
          rw [HU.out, cat_bs, cat_bs, cat_bs, HNext.out]
          exact congrArg (fun l => Value.string (s ++ bs l)) (show _ = putP Fs k ++ (by1 65 ++ (by2 i ++ F.bys (matF m0 m1 m2 m3 m4 m5))) by simp only [List.append_assoc]))
        have hsum : (u ++ bs (by1 65)).size ≤ 4000 := by rw [ByteArray.size_append]; omega
        generalize bs (by1 65) = t1 at *
        generalize bs (by2 i) = t2 at *
        generalize bs (F.bys (matF m0 m1 m2 m3 m4 m5)) = t3 at *
        go_upto_region 7 with (go_big_may; first
          | (refine wpList_load_mid rfl 28 _ rfl fb (fo + k * 14) rfl (fillC ⟨65, [r, g, b, a], [m0, m1, m2, m3, m4, m5], sp, st, (i : Int)⟩ (.slice sa st.length sc)) _ rg Try.underlying28 rfl hsz ?_)
          | (refine wl_alloc 28 _ zero28f rfl rfl ?_; intro W1 bf Bf_1 l1 k1; have gf : wr.heap.size ≤ bf := l1; have Hw1 := k1; clear l1 k1)
          | (refine wl_store 28 14 size28g _ _ rfl rfl _ rfl #[.int .i64 65, .int .i64 r, .int .i64 g, .int .i64 b, .int .i64 a, .int .i64 m0, .int .i64 m1, .int .i64 m2, .int .i64 m3, .int .i64 m4, .int .i64 m5, .int .i64 sp, .slice sa st.length sc, .int .i64 (i : Int)] rfl _ _ Bf_1 rfl rfl (by kernel_rfl) ?_; intro W2 Bf_2 T2; have Hw2 := T2.below Hw1 gf; clear T2 Bf_1 Hw1; have cf_0_2 : W2.cell? ⟨bf, 0, none⟩ = some (.int .i64 65) := Bf_2.cell 0)
          | (go_at_call 37; (with_reducible refine (HO.out _).mono ?_); rintro e W3 ⟨rfl, k3⟩; have Bf_3 := Bf_2.keep k3; have Hw3 := bq_trans Hw2 k3; clear k3 Bf_2 cf_0_2 Hw2))
        have cf0_3 : W3.cell? ⟨bf, 0, none⟩ = some (.int .i64 65) := Bf_3.cell 0
        go_upto_region 10 with (fail)
        have hnl : ¬ 9223372036854775807 < u.size + t1.size + t2.size := by omega
        refine Det.wp_region_det (S := fun w' => Below W3.heap.size W3 w') (by kernel_rfl) (by kernel_rfl) (bq_drew (bq_refl _)) ?_
        refine Det.det_take (v := ?_) (by rfl) ?_ ?_
        rotate_left
        · (intro w hSw; go_simp; try with_reducible rfl)
        try simp only [Act.put, List.setIfInBounds_toArray, List.set_cons_zero, List.set_cons_succ]
        refine Det.det_take (v := ?_) (by rfl) ?_ ?_
        rotate_left
        · (intro w hSw; go_simp; try with_reducible rfl)
        try simp only [Act.put, List.setIfInBounds_toArray, List.set_cons_zero, List.set_cons_succ]
        refine Det.det_take (v := ?_) (by rfl) ?_ ?_
        rotate_left
        · (intro w hSw; have cc := (Bf_3.keep hSw).cell 13; go_simp; try with_reducible rfl)
        try simp only [Act.put, List.setIfInBounds_toArray, List.set_cons_zero, List.set_cons_succ]
        refine Det.det_call (f := 40) (args := #[.int .i64 (i : Int)]) (v := .string t2) (by rfl) ?_ (fun w hS => (HT2.out w).mono fun e w' ⟨h1, h2⟩ => ⟨h1, bq_trans hS h2⟩) ?_
        · (intro w hSw; go_simp)
        try simp only [Act.put, List.setIfInBounds_toArray, List.set_cons_zero, List.set_cons_succ]
        refine Det.det_take (v := ?_) (by rfl) ?_ ?_
        rotate_left
        · (intro w hSw; go_simp; try with_reducible rfl)
        try simp only [Act.put, List.setIfInBounds_toArray, List.set_cons_zero, List.set_cons_succ]
        refine Det.det_take (v := ?_) (by rfl) ?_ ?_
        rotate_left
        · (intro w hSw; go_simp; try with_reducible rfl)
        try simp only [Act.put, List.setIfInBounds_toArray, List.set_cons_zero, List.set_cons_succ]
        refine Det.det_take (v := ?_) (by rfl) ?_ ?_
        rotate_left
        · (intro w hSw; have cc5 := (Bf_3.keep hSw).cell 5; have cc6 := (Bf_3.keep hSw).cell 6; have cc7 := (Bf_3.keep hSw).cell 7; have cc8 := (Bf_3.keep hSw).cell 8; have cc9 := (Bf_3.keep hSw).cell 9; have cc10 := (Bf_3.keep hSw).cell 10; go_simp; try with_reducible rfl)
        try simp only [Act.put, List.setIfInBounds_toArray, List.set_cons_zero, List.set_cons_succ]
        refine Det.det_call (f := 39) (args := #[.string (u ++ t1 ++ t2), .agg #[.int .i64 m0, .int .i64 m1, .int .i64 m2, .int .i64 m3, .int .i64 m4, .int .i64 m5]]) (v := .string (u ++ t1 ++ t2 ++ t3)) (by rfl) ?_ (fun w hS => (HM.out w).mono fun e w' ⟨h1, h2⟩ => ⟨h1, bq_trans hS h2⟩) ?_
        · (intro w hSw; go_simp)
        try simp only [Act.put, List.setIfInBounds_toArray, List.set_cons_zero, List.set_cons_succ]
        refine Det.det_take (v := ?_) (by rfl) ?_ ?_
        rotate_left
        · (intro w hSw; go_simp; try with_reducible rfl)
        try simp only [Act.put, List.setIfInBounds_toArray, List.set_cons_zero, List.set_cons_succ]
        refine Det.det_nil (fun W4 k4 => ?_)
        have Bf_4 := Bf_3.keep k4
        have Hw4 := bq_trans Hw3 k4
        clear k4 Bf_3 Hw3
        have cf0_4 : W4.cell? ⟨bf, 0, none⟩ = some (.int .i64 65) := Bf_4.cell 0
        go_wp2_with fail
        go_roundw
        case rel => exact ⟨k + 1, by omega, by go_num, HN.out, bq_trans HB.out Hw4⟩
        case measure => simp [intOf]; omega
      have SG9 : Hid (∀ (i : Nat) (hi : i < st.length), sa = some ⟨sb, so, none⟩ ∧ sb < w.heap.size ∧ ∃ cs : List Value, cs.length = 5 ∧ Num5 w cs st[i] ∧ w.rangeAt sb (so + i * 5) cs) := Lib.hid sget
      clear sget
      have k1618 : kv = 16 ∨ kv = 18 := by
        have := HOK.out
        unfold fillOk at this
        dsimp only at this
        rw [if_neg k0, if_neg (by omega)] at this
        split at this
        · assumption
        · cases this
      rcases k1618 with rfl | rfl
      ·
        have HO : Hid (∀ W, Calls Try.prog 37 #[.int .i64 16] W fun e w' => e = .returned (.string (bs (by1 16))) ∧ Below W.heap.size W w') := Lib.hid fun W => refone_any 16 W (by omega)
        have ht1 : (bs (by1 16)).size ≤ 1 := by rw [bs_size]; exact Nat.le_refl _
        have hok : stopsFrom 0 st = true ∧ (decide (0 ≤ sp) = true ∧ decide (sp < 3) = true) ∧ (decide (st.length < 9) = true) ∧ matOk m0 m1 m2 m3 m4 m5 = true := by
          have := HOK.out
          unfold fillOk at this
          rw [if_neg (show ¬ ((16 : Int) = 0) by decide), if_neg (show ¬ ((16 : Int) = 64 ∨ (16 : Int) = 65) by decide), if_pos (show ((16 : Int) = 16 ∨ (16 : Int) = 18) by decide)] at this
          simp only [Bool.and_eq_true] at this
          exact ⟨this.1.1.1.1.1.1.1, ⟨this.1.1.1.1.2, this.1.1.1.2⟩, this.1.2, this.2⟩
        obtain ⟨hst9, hsp9, hn9, hm9⟩ := hok
        simp only [decide_eq_true_eq] at hsp9 hn9
        obtain ⟨q, rfl⟩ : ∃ q : Nat, sp = (q : Int) := ⟨sp.toNat, by omega⟩
        have hm1 : IntKind.i64.wrap (64 * (q : Int)) = 64 * (q : Int) := i64_wrap _ (by omega) (by omega)
        have hm2 : IntKind.i64.wrap (64 * (q : Int) + (st.length : Int)) = 64 * (q : Int) + (st.length : Int) := i64_wrap _ (by omega) (by omega)
        have HT2 : Hid (∀ W, Calls Try.prog 37 #[.int .i64 (64 * (q : Int) + (st.length : Int))] W fun e w' => e = .returned (.string (bs (by1 (64 * q + st.length)))) ∧ Below W.heap.size W w') := Lib.hid fun W => by
          have := refone_any (64 * q + st.length) W (by omega)
          rw [show ((64 * q + st.length : Nat) : Int) = 64 * (q : Int) + (st.length : Int) by omega] at this
          exact this
        have ht2 : (bs (by1 (64 * q + st.length))).size ≤ 1 := by rw [bs_size]; exact Nat.le_refl _
        have hmb := mat_bytes9 hm9
        have HM : Hid (∀ W, Calls Try.prog 39 #[.string (u ++ bs (by1 16)), .agg #[.int .i64 m0, .int .i64 m1, .int .i64 m2, .int .i64 m3, .int .i64 m4, .int .i64 m5]] W fun e w' => e = .returned (.string (u ++ bs (by1 16) ++ bs (F.bys (matF m0 m1 m2 m3 m4 m5)))) ∧ Below W.heap.size W w') := Lib.hid fun W => refputmatrix_ok _ m0 m1 m2 m3 m4 m5 W (by rw [ByteArray.size_append]; omega) hm9
        have HN : Hid (u ++ bs (by1 16) ++ bs (F.bys (matF m0 m1 m2 m3 m4 m5)) ++ bs (by1 (64 * q + st.length)) ++ bs (st.flatMap stopB) = s ++ bs (putP Fs (k + 1))) := Lib.hid (by
          rw [HU.out, cat_bs, cat_bs, cat_bs, cat_bs, HNext.out]
          exact congrArg (fun l => s ++ bs l) (show _ = putP Fs k ++ (by1 16 ++ (F.bys (matF m0 m1 m2 m3 m4 m5) ++ by1 (64 * q + st.length) ++ st.flatMap stopB)) by simp only [List.append_assoc]))
        have ht3 : (bs (F.bys (matF m0 m1 m2 m3 m4 m5))).size ≤ 20 := by rw [bs_size]; exact hmb
        generalize bs (by1 16) = t1 at *
        generalize bs (by1 (64 * q + st.length)) = t2 at *
        generalize bs (F.bys (matF m0 m1 m2 m3 m4 m5)) = t3 at *
        have hs1 : (u ++ t1).size ≤ 4000 := by rw [ByteArray.size_append]; omega
        have hs2 : (u ++ t1 ++ t3).size ≤ 5000 := by rw [ByteArray.size_append]; omega
        go_upto_region 7 with (go_big_may; first
          | (refine wpList_load_mid rfl 28 _ rfl fb (fo + k * 14) rfl (fillC ⟨16, [r, g, b, a], [m0, m1, m2, m3, m4, m5], (q : Int), st, id⟩ (.slice sa st.length sc)) _ rg Try.underlying28 rfl hsz ?_)
          | (refine wl_alloc 28 _ zero28f rfl rfl ?_; intro W1 bf Bf_1 l1 k1; have gf : wr.heap.size ≤ bf := l1; have Hw1 := k1; clear l1 k1)
          | (refine wl_store 28 14 size28g _ _ rfl rfl _ rfl #[.int .i64 16, .int .i64 r, .int .i64 g, .int .i64 b, .int .i64 a, .int .i64 m0, .int .i64 m1, .int .i64 m2, .int .i64 m3, .int .i64 m4, .int .i64 m5, .int .i64 (q : Int), .slice sa st.length sc, .int .i64 id] rfl _ _ Bf_1 rfl rfl (by kernel_rfl) ?_; intro W2 Bf_2 T2; have Hw2 := T2.below Hw1 gf; clear T2 Bf_1 Hw1; have cf_0_2 : W2.cell? ⟨bf, 0, none⟩ = some (.int .i64 16) := Bf_2.cell 0)
          | (go_at_call 37; (with_reducible refine (HO.out _).mono ?_); rintro e W3 ⟨rfl, k3⟩; have Bf_3 := Bf_2.keep k3; have Hw3 := bq_trans Hw2 k3; clear k3 Bf_2 cf_0_2 Hw2))
        have cf0_3 : W3.cell? ⟨bf, 0, none⟩ = some (.int .i64 16) := Bf_3.cell 0
        go_upto_region 12 with (fail)
        have hnl : ¬ 9223372036854775807 < u.size + t1.size + t3.size + t2.size := by omega
        refine Det.wp_region_det (S := fun w' => Below W3.heap.size W3 w') (by kernel_rfl) (by kernel_rfl) (bq_drew (bq_refl _)) ?_
        refine Det.det_take (v := ?_) (by rfl) ?_ ?_
        rotate_left
        · (intro w hSw; go_simp; try with_reducible rfl)
        try simp only [Act.put, List.setIfInBounds_toArray, List.set_cons_zero, List.set_cons_succ]
        refine Det.det_take (v := ?_) (by rfl) ?_ ?_
        rotate_left
        · (intro w hSw; go_simp; try with_reducible rfl)
        try simp only [Act.put, List.setIfInBounds_toArray, List.set_cons_zero, List.set_cons_succ]
        refine Det.det_take (v := ?_) (by rfl) ?_ ?_
        rotate_left
        · (intro w hSw; have cc5 := (Bf_3.keep hSw).cell 5; have cc6 := (Bf_3.keep hSw).cell 6; have cc7 := (Bf_3.keep hSw).cell 7; have cc8 := (Bf_3.keep hSw).cell 8; have cc9 := (Bf_3.keep hSw).cell 9; have cc10 := (Bf_3.keep hSw).cell 10; go_simp; try with_reducible rfl)
        try simp only [Act.put, List.setIfInBounds_toArray, List.set_cons_zero, List.set_cons_succ]
        refine Det.det_call (f := 39) (args := #[.string (u ++ t1), .agg #[.int .i64 m0, .int .i64 m1, .int .i64 m2, .int .i64 m3, .int .i64 m4, .int .i64 m5]]) (v := .string (u ++ t1 ++ t3)) (by rfl) ?_ (fun w hS => (HM.out w).mono fun e w' ⟨h1, h2⟩ => ⟨h1, bq_trans hS h2⟩) ?_
        · (intro w hSw; go_simp)
        try simp only [Act.put, List.setIfInBounds_toArray, List.set_cons_zero, List.set_cons_succ]
        refine Det.det_take (v := ?_) (by rfl) ?_ ?_
        rotate_left
        · (intro w hSw; go_simp; try with_reducible rfl)
        try simp only [Act.put, List.setIfInBounds_toArray, List.set_cons_zero, List.set_cons_succ]
        refine Det.det_take (v := ?_) (by rfl) ?_ ?_
        rotate_left
        · (intro w hSw; have cc := (Bf_3.keep hSw).cell 11; go_simp; try with_reducible rfl)
        try simp only [Act.put, List.setIfInBounds_toArray, List.set_cons_zero, List.set_cons_succ]
        refine Det.det_take (v := ?_) (by rfl) ?_ ?_
        rotate_left
        · (intro w hSw; go_simp; try with_reducible rfl)
        try simp only [Act.put, List.setIfInBounds_toArray, List.set_cons_zero, List.set_cons_succ]
        refine Det.det_take (v := ?_) (by rfl) ?_ ?_
        rotate_left
        · (intro w hSw; go_simp; try with_reducible rfl)
        try simp only [Act.put, List.setIfInBounds_toArray, List.set_cons_zero, List.set_cons_succ]
        refine Det.det_take (v := ?_) (by rfl) ?_ ?_
        rotate_left
        · (intro w hSw; have cc := (Bf_3.keep hSw).cell 12; go_simp; try with_reducible rfl)
        try simp only [Act.put, List.setIfInBounds_toArray, List.set_cons_zero, List.set_cons_succ]
        refine Det.det_take (v := ?_) (by rfl) ?_ ?_
        rotate_left
        · (intro w hSw; go_simp; try with_reducible rfl)
        try simp only [Act.put, List.setIfInBounds_toArray, List.set_cons_zero, List.set_cons_succ]
        refine Det.det_take (v := ?_) (by rfl) ?_ ?_
        rotate_left
        · (intro w hSw; go_simp; try with_reducible rfl)
        try simp only [Act.put, List.setIfInBounds_toArray, List.set_cons_zero, List.set_cons_succ]
        refine Det.det_call (f := 37) (args := #[.int .i64 (64 * (q : Int) + (st.length : Int))]) (v := .string t2) (by rfl) ?_ (fun w hS => (HT2.out w).mono fun e w' ⟨h1, h2⟩ => ⟨h1, bq_trans hS h2⟩) ?_
        · (intro w hSw; go_simp)
        try simp only [Act.put, List.setIfInBounds_toArray, List.set_cons_zero, List.set_cons_succ]
        refine Det.det_take (v := ?_) (by rfl) ?_ ?_
        rotate_left
        · (intro w hSw; go_simp; try with_reducible rfl)
        try simp only [Act.put, List.setIfInBounds_toArray, List.set_cons_zero, List.set_cons_succ]
        refine Det.det_take (v := ?_) (by rfl) ?_ ?_
        rotate_left
        · (intro w hSw; go_simp; try with_reducible rfl)
        try simp only [Act.put, List.setIfInBounds_toArray, List.set_cons_zero, List.set_cons_succ]
        refine Det.det_nil (fun W4 k4 => ?_)
        have Bf_4 := Bf_3.keep k4
        have Hw4 := bq_trans Hw3 k4
        clear k4 Bf_3 Hw3
        go_wp2_with fail
        have HB1 := Lib.hid (bq_trans HB.out Hw4)
        have BF1 := Bf_4
        have hs3 : (u ++ t1 ++ t3 ++ t2).size ≤ 5100 := by rw [ByteArray.size_append]; omega
        clear hs1 hs2 hsu ht1 ht2 ht3 hm1 hm2 HT2 HM HO rg hsz
        generalize u ++ t1 ++ t3 ++ t2 = v at *
        go_loopw [0, 9] (fun z i wr => StRel w bf #[.int .i64 16, .int .i64 r, .int .i64 g, .int .i64 b, .int .i64 a, .int .i64 m0, .int .i64 m1, .int .i64 m2, .int .i64 m3, .int .i64 m4, .int .i64 m5, .int .i64 (q : Int), .slice sa st.length sc, .int .i64 id] v st z i wr) (fun _ i _ => st.length - (intOf i).toNat)
        case atStart => exact ⟨0, by omega, rfl, by rw [List.take_zero]; exact congrArg Value.string (bs_nil9 v).symm, BF1, HB1.out⟩
        case round =>
          obtain ⟨j, hj, rfl, rfl, BF, hbel2⟩ := hrel
          have HBJ := Lib.hid hbel2
          clear hbel2 BF1
          have c12 : wr.cell? ⟨bf, 12, none⟩ = some (.slice sa st.length sc) := BF.cell 12
          by_cases hlt9 : j < st.length
          · obtain ⟨rfl, _, cs, _, ⟨h5, rfl, hbd⟩, hrg⟩ := SG9.out j hlt9
            have rg := rangeAt_keep hrg HBJ.out
            have hx9 := stop_ok hst9 (Int.le_refl 0) st[j] (List.getElem_mem hlt9)
            have hfl := flat_len stopB (st.take j) 5 fun x _ => stopB_len x
            have htl : (st.take j).length = j := by rw [List.length_take]; omega
            have hft := flat_take stopB st j hlt9
            obtain ⟨x0, x1, x2, x3, x4, hx⟩ := list5 _ h5
            rw [hx] at rg hx9 hft
            have hx0 : 0 ≤ x0 ∧ x0 ≤ 255 ∧ rgbaOk x1 x2 x3 x4 = true := hx9
            obtain ⟨p, rfl⟩ : ∃ p : Nat, x0 = (p : Int) := ⟨x0.toNat, by omega⟩
            have rg1 : wr.rangeAt sb (so + j * 5 + 1) (iL [x1, x2, x3, x4]) := fun n v hv => by
              have := rg (n + 1) v (by simpa [iL] using hv)
              rw [show so + j * 5 + 1 + n = so + j * 5 + (n + 1) by omega]
              exact this
            obtain ⟨y, hy⟩ : ∃ y, y = v ++ bs ((st.take j).flatMap stopB) := ⟨_, rfl⟩
            have hys : y.size ≤ 5200 := by rw [hy, ByteArray.size_append, bs_size]; omega
            have HT1 : Hid (∀ W, Calls Try.prog 37 #[.int .i64 (p : Int)] W fun e w' => e = .returned (.string (bs (by1 p))) ∧ Below W.heap.size W w') := Lib.hid fun W => refone_any p W (by omega)
            have ht1 : (bs (by1 p)).size ≤ 1 := by rw [bs_size]; exact Nat.le_refl _
            have HP2 : Hid (∀ W, Calls Try.prog 38 #[.string (y ++ bs (by1 p)), .agg (iL [x1, x2, x3, x4]).toArray] W fun e w' => e = .returned (.string (y ++ bs (by1 p) ++ bs (by4 x1 x2 x3 x4))) ∧ Below W.heap.size W w') := Lib.hid fun W => refputrgba_ok _ x1 x2 x3 x4 W (by rw [ByteArray.size_append]; omega) hx0.2.2
            have HZ : Hid (Value.string (y ++ bs (by1 p) ++ bs (by4 x1 x2 x3 x4)) = .string (v ++ bs ((st.take (j + 1)).flatMap stopB))) := Lib.hid (by
              rw [hy, cat_bs, cat_bs, hft]
              exact congrArg (fun l => Value.string (v ++ bs l)) (by first | exact List.append_assoc _ _ _ | rfl))
            rw [← hy]
            generalize bs (by1 p) = t1 at *
            generalize bs (by4 x1 x2 x3 x4) = t2 at *
            have i1 : (0 : Int) ≤ (j : Int) := by omega
            have i2 : (j : Int) < (st.length : Int) := by omega
            clear hy hrg hbd h5 hx9 hfl htl hft hx hx0 hst9
            go_upto_region 16 with (fail)
            have hnl : ¬ 9223372036854775807 < y.size + t1.size := by omega
            refine Det.wp_region_det (S := fun w' => Below wr.heap.size wr w') (by kernel_rfl) (by kernel_rfl) (bq_drew (bq_refl _)) ?_
            refine Det.det_take (v := ?_) (by rfl) ?_ ?_
            rotate_left
            · (intro w hSw; go_simp; try with_reducible rfl)
            try simp only [Act.put, List.setIfInBounds_toArray, List.set_cons_zero, List.set_cons_succ]
            refine Det.det_take (v := ?_) (by rfl) ?_ ?_
            rotate_left
            · (intro w hSw; go_simp; try with_reducible rfl)
            try simp only [Act.put, List.setIfInBounds_toArray, List.set_cons_zero, List.set_cons_succ]
            refine Det.det_take (v := ?_) (by rfl) ?_ ?_
            rotate_left
            · (intro w hSw; have cc := (BF.keep hSw).cell 12; go_simp; try with_reducible rfl)
            try simp only [Act.put, List.setIfInBounds_toArray, List.set_cons_zero, List.set_cons_succ]
            refine Det.det_take (v := ?_) (by rfl) ?_ ?_
            rotate_left
            · (intro w hSw; go_simp; try with_reducible rfl)
            try simp only [Act.put, List.setIfInBounds_toArray, List.set_cons_zero, List.set_cons_succ]
            refine Det.det_take (v := ?_) (by rfl) ?_ ?_
            rotate_left
            · (intro w hSw; go_simp; try with_reducible rfl)
            try simp only [Act.put, List.setIfInBounds_toArray, List.set_cons_zero, List.set_cons_succ]
            refine Det.det_take (v := ?_) (by rfl) ?_ ?_
            rotate_left
            · (intro w hSw; go_simp; try with_reducible rfl)
            try simp only [Act.put, List.setIfInBounds_toArray, List.set_cons_zero, List.set_cons_succ]
            refine Det.det_take (v := ?_) (by rfl) ?_ ?_
            rotate_left
            · (intro w hSw; have cc : w.cell? ⟨sb, so + j * 5, none⟩ = some (.int .i64 (p : Int)) := rangeAt_keep rg hSw 0 _ rfl; go_simp; try with_reducible rfl)
            try simp only [Act.put, List.setIfInBounds_toArray, List.set_cons_zero, List.set_cons_succ]
            refine Det.det_call (f := 37) (args := #[.int .i64 (p : Int)]) (v := .string t1) (by rfl) ?_ (fun w hS => (HT1.out w).mono fun e w' ⟨h1, h2⟩ => ⟨h1, bq_trans hS h2⟩) ?_
            · (intro w hSw; go_simp)
            try simp only [Act.put, List.setIfInBounds_toArray, List.set_cons_zero, List.set_cons_succ]
            refine Det.det_take (v := ?_) (by rfl) ?_ ?_
            rotate_left
            · (intro w hSw; go_simp; try with_reducible rfl)
            try simp only [Act.put, List.setIfInBounds_toArray, List.set_cons_zero, List.set_cons_succ]
            refine Det.det_take (v := ?_) (by rfl) ?_ ?_
            rotate_left
            · (intro w hSw; go_simp; try with_reducible rfl)
            try simp only [Act.put, List.setIfInBounds_toArray, List.set_cons_zero, List.set_cons_succ]
            refine Det.det_take (v := ?_) (by rfl) ?_ ?_
            rotate_left
            · (intro w hSw; have cc := (BF.keep hSw).cell 12; go_simp; try with_reducible rfl)
            try simp only [Act.put, List.setIfInBounds_toArray, List.set_cons_zero, List.set_cons_succ]
            refine Det.det_take (v := ?_) (by rfl) ?_ ?_
            rotate_left
            · (intro w hSw; go_simp; try with_reducible rfl)
            try simp only [Act.put, List.setIfInBounds_toArray, List.set_cons_zero, List.set_cons_succ]
            refine Det.det_take (v := ?_) (by rfl) ?_ ?_
            rotate_left
            · (intro w hSw; go_simp; try with_reducible rfl)
            try simp only [Act.put, List.setIfInBounds_toArray, List.set_cons_zero, List.set_cons_succ]
            refine Det.det_take (v := ?_) (by rfl) ?_ ?_
            rotate_left
            · (intro w hSw; go_simp; try with_reducible rfl)
            try simp only [Act.put, List.setIfInBounds_toArray, List.set_cons_zero, List.set_cons_succ]
            refine Det.det_mid 23 _ rfl (by rfl) _ _ rfl (iL [x1, x2, x3, x4]) _ (fun w hS => rangeAt_keep rg1 hS) Try.underlying23 rfl size23f ?_
            try simp only [Act.put, List.setIfInBounds_toArray, List.set_cons_zero, List.set_cons_succ]
            refine Det.det_call (f := 38) (args := #[.string (y ++ t1), .agg (iL [x1, x2, x3, x4]).toArray]) (v := .string (y ++ t1 ++ t2)) (by rfl) ?_ (fun w hS => (HP2.out w).mono fun e w' ⟨h1, h2⟩ => ⟨h1, bq_trans hS h2⟩) ?_
            · (intro w hSw; go_simp)
            try simp only [Act.put, List.setIfInBounds_toArray, List.set_cons_zero, List.set_cons_succ]
            refine Det.det_take (v := ?_) (by rfl) ?_ ?_
            rotate_left
            · (intro w hSw; go_simp; try with_reducible rfl)
            try simp only [Act.put, List.setIfInBounds_toArray, List.set_cons_zero, List.set_cons_succ]
            refine Det.det_nil (fun W41 k41 => ?_)
            have Bf_41 := BF.keep k41
            have Hw41 := k41
            clear k41 BF
            go_wp2_with fail
            go_roundw
            case rel => exact ⟨j + 1, by omega, by go_num, HZ.out, Bf_41, bq_trans HBJ.out Hw41⟩
            case measure => simp [intOf]; omega
          · obtain rfl : j = st.length := by omega
            have HQ : Hid (Value.string (v ++ bs ((st.take st.length).flatMap stopB)) = .string (s ++ bs (putP Fs (k + 1)))) := Lib.hid (by rw [List.take_length, HN.out])
            generalize v ++ bs ((st.take st.length).flatMap stopB) = y at *
            go_wp2_with fail
            go_roundw
            case rel => exact ⟨k + 1, by omega, by go_num, HQ.out, HBJ.out⟩
            case measure => simp [intOf]; omega
      ·
        have HO : Hid (∀ W, Calls Try.prog 37 #[.int .i64 18] W fun e w' => e = .returned (.string (bs (by1 18))) ∧ Below W.heap.size W w') := Lib.hid fun W => refone_any 18 W (by omega)
        have ht1 : (bs (by1 18)).size ≤ 1 := by rw [bs_size]; exact Nat.le_refl _
        have hok : stopsFrom 0 st = true ∧ (decide (0 ≤ sp) = true ∧ decide (sp < 3) = true) ∧ (decide (st.length < 9) = true) ∧ matOk m0 m1 m2 m3 m4 m5 = true := by
          have := HOK.out
          unfold fillOk at this
          rw [if_neg (show ¬ ((18 : Int) = 0) by decide), if_neg (show ¬ ((18 : Int) = 64 ∨ (18 : Int) = 65) by decide), if_pos (show ((18 : Int) = 16 ∨ (18 : Int) = 18) by decide)] at this
          simp only [Bool.and_eq_true] at this
          exact ⟨this.1.1.1.1.1.1.1, ⟨this.1.1.1.1.2, this.1.1.1.2⟩, this.1.2, this.2⟩
        obtain ⟨hst9, hsp9, hn9, hm9⟩ := hok
        simp only [decide_eq_true_eq] at hsp9 hn9
        obtain ⟨q, rfl⟩ : ∃ q : Nat, sp = (q : Int) := ⟨sp.toNat, by omega⟩
        have hm1 : IntKind.i64.wrap (64 * (q : Int)) = 64 * (q : Int) := i64_wrap _ (by omega) (by omega)
        have hm2 : IntKind.i64.wrap (64 * (q : Int) + (st.length : Int)) = 64 * (q : Int) + (st.length : Int) := i64_wrap _ (by omega) (by omega)
        have HT2 : Hid (∀ W, Calls Try.prog 37 #[.int .i64 (64 * (q : Int) + (st.length : Int))] W fun e w' => e = .returned (.string (bs (by1 (64 * q + st.length)))) ∧ Below W.heap.size W w') := Lib.hid fun W => by
          have := refone_any (64 * q + st.length) W (by omega)
          rw [show ((64 * q + st.length : Nat) : Int) = 64 * (q : Int) + (st.length : Int) by omega] at this
          exact this
        have ht2 : (bs (by1 (64 * q + st.length))).size ≤ 1 := by rw [bs_size]; exact Nat.le_refl _
        have hmb := mat_bytes9 hm9
        have HM : Hid (∀ W, Calls Try.prog 39 #[.string (u ++ bs (by1 18)), .agg #[.int .i64 m0, .int .i64 m1, .int .i64 m2, .int .i64 m3, .int .i64 m4, .int .i64 m5]] W fun e w' => e = .returned (.string (u ++ bs (by1 18) ++ bs (F.bys (matF m0 m1 m2 m3 m4 m5)))) ∧ Below W.heap.size W w') := Lib.hid fun W => refputmatrix_ok _ m0 m1 m2 m3 m4 m5 W (by rw [ByteArray.size_append]; omega) hm9
        have HN : Hid (u ++ bs (by1 18) ++ bs (F.bys (matF m0 m1 m2 m3 m4 m5)) ++ bs (by1 (64 * q + st.length)) ++ bs (st.flatMap stopB) = s ++ bs (putP Fs (k + 1))) := Lib.hid (by
          rw [HU.out, cat_bs, cat_bs, cat_bs, cat_bs, HNext.out]
          exact congrArg (fun l => s ++ bs l) (show _ = putP Fs k ++ (by1 18 ++ (F.bys (matF m0 m1 m2 m3 m4 m5) ++ by1 (64 * q + st.length) ++ st.flatMap stopB)) by simp only [List.append_assoc]))
        have ht3 : (bs (F.bys (matF m0 m1 m2 m3 m4 m5))).size ≤ 20 := by rw [bs_size]; exact hmb
        generalize bs (by1 18) = t1 at *
        generalize bs (by1 (64 * q + st.length)) = t2 at *
        generalize bs (F.bys (matF m0 m1 m2 m3 m4 m5)) = t3 at *
        have hs1 : (u ++ t1).size ≤ 4000 := by rw [ByteArray.size_append]; omega
        have hs2 : (u ++ t1 ++ t3).size ≤ 5000 := by rw [ByteArray.size_append]; omega
        go_upto_region 7 with (go_big_may; first
          | (refine wpList_load_mid rfl 28 _ rfl fb (fo + k * 14) rfl (fillC ⟨18, [r, g, b, a], [m0, m1, m2, m3, m4, m5], (q : Int), st, id⟩ (.slice sa st.length sc)) _ rg Try.underlying28 rfl hsz ?_)
          | (refine wl_alloc 28 _ zero28f rfl rfl ?_; intro W1 bf Bf_1 l1 k1; have gf : wr.heap.size ≤ bf := l1; have Hw1 := k1; clear l1 k1)
          | (refine wl_store 28 14 size28g _ _ rfl rfl _ rfl #[.int .i64 18, .int .i64 r, .int .i64 g, .int .i64 b, .int .i64 a, .int .i64 m0, .int .i64 m1, .int .i64 m2, .int .i64 m3, .int .i64 m4, .int .i64 m5, .int .i64 (q : Int), .slice sa st.length sc, .int .i64 id] rfl _ _ Bf_1 rfl rfl (by kernel_rfl) ?_; intro W2 Bf_2 T2; have Hw2 := T2.below Hw1 gf; clear T2 Bf_1 Hw1; have cf_0_2 : W2.cell? ⟨bf, 0, none⟩ = some (.int .i64 18) := Bf_2.cell 0)
          | (go_at_call 37; (with_reducible refine (HO.out _).mono ?_); rintro e W3 ⟨rfl, k3⟩; have Bf_3 := Bf_2.keep k3; have Hw3 := bq_trans Hw2 k3; clear k3 Bf_2 cf_0_2 Hw2))
        have cf0_3 : W3.cell? ⟨bf, 0, none⟩ = some (.int .i64 18) := Bf_3.cell 0
        go_upto_region 12 with (fail)
        have hnl : ¬ 9223372036854775807 < u.size + t1.size + t3.size + t2.size := by omega
        refine Det.wp_region_det (S := fun w' => Below W3.heap.size W3 w') (by kernel_rfl) (by kernel_rfl) (bq_drew (bq_refl _)) ?_
        refine Det.det_take (v := ?_) (by rfl) ?_ ?_
        rotate_left
        · (intro w hSw; go_simp; try with_reducible rfl)
        try simp only [Act.put, List.setIfInBounds_toArray, List.set_cons_zero, List.set_cons_succ]
        refine Det.det_take (v := ?_) (by rfl) ?_ ?_
        rotate_left
        · (intro w hSw; go_simp; try with_reducible rfl)
        try simp only [Act.put, List.setIfInBounds_toArray, List.set_cons_zero, List.set_cons_succ]
        refine Det.det_take (v := ?_) (by rfl) ?_ ?_
        rotate_left
        · (intro w hSw; have cc5 := (Bf_3.keep hSw).cell 5; have cc6 := (Bf_3.keep hSw).cell 6; have cc7 := (Bf_3.keep hSw).cell 7; have cc8 := (Bf_3.keep hSw).cell 8; have cc9 := (Bf_3.keep hSw).cell 9; have cc10 := (Bf_3.keep hSw).cell 10; go_simp; try with_reducible rfl)
        try simp only [Act.put, List.setIfInBounds_toArray, List.set_cons_zero, List.set_cons_succ]
        refine Det.det_call (f := 39) (args := #[.string (u ++ t1), .agg #[.int .i64 m0, .int .i64 m1, .int .i64 m2, .int .i64 m3, .int .i64 m4, .int .i64 m5]]) (v := .string (u ++ t1 ++ t3)) (by rfl) ?_ (fun w hS => (HM.out w).mono fun e w' ⟨h1, h2⟩ => ⟨h1, bq_trans hS h2⟩) ?_
        · (intro w hSw; go_simp)
        try simp only [Act.put, List.setIfInBounds_toArray, List.set_cons_zero, List.set_cons_succ]
        refine Det.det_take (v := ?_) (by rfl) ?_ ?_
        rotate_left
        · (intro w hSw; go_simp; try with_reducible rfl)
        try simp only [Act.put, List.setIfInBounds_toArray, List.set_cons_zero, List.set_cons_succ]
        refine Det.det_take (v := ?_) (by rfl) ?_ ?_
        rotate_left
        · (intro w hSw; have cc := (Bf_3.keep hSw).cell 11; go_simp; try with_reducible rfl)
        try simp only [Act.put, List.setIfInBounds_toArray, List.set_cons_zero, List.set_cons_succ]
        refine Det.det_take (v := ?_) (by rfl) ?_ ?_
        rotate_left
        · (intro w hSw; go_simp; try with_reducible rfl)
        try simp only [Act.put, List.setIfInBounds_toArray, List.set_cons_zero, List.set_cons_succ]
        refine Det.det_take (v := ?_) (by rfl) ?_ ?_
        rotate_left
        · (intro w hSw; go_simp; try with_reducible rfl)
        try simp only [Act.put, List.setIfInBounds_toArray, List.set_cons_zero, List.set_cons_succ]
        refine Det.det_take (v := ?_) (by rfl) ?_ ?_
        rotate_left
        · (intro w hSw; have cc := (Bf_3.keep hSw).cell 12; go_simp; try with_reducible rfl)
        try simp only [Act.put, List.setIfInBounds_toArray, List.set_cons_zero, List.set_cons_succ]
        refine Det.det_take (v := ?_) (by rfl) ?_ ?_
        rotate_left
        · (intro w hSw; go_simp; try with_reducible rfl)
        try simp only [Act.put, List.setIfInBounds_toArray, List.set_cons_zero, List.set_cons_succ]
        refine Det.det_take (v := ?_) (by rfl) ?_ ?_
        rotate_left
        · (intro w hSw; go_simp; try with_reducible rfl)
        try simp only [Act.put, List.setIfInBounds_toArray, List.set_cons_zero, List.set_cons_succ]
        refine Det.det_call (f := 37) (args := #[.int .i64 (64 * (q : Int) + (st.length : Int))]) (v := .string t2) (by rfl) ?_ (fun w hS => (HT2.out w).mono fun e w' ⟨h1, h2⟩ => ⟨h1, bq_trans hS h2⟩) ?_
        · (intro w hSw; go_simp)
        try simp only [Act.put, List.setIfInBounds_toArray, List.set_cons_zero, List.set_cons_succ]
        refine Det.det_take (v := ?_) (by rfl) ?_ ?_
        rotate_left
        · (intro w hSw; go_simp; try with_reducible rfl)
        try simp only [Act.put, List.setIfInBounds_toArray, List.set_cons_zero, List.set_cons_succ]
        refine Det.det_take (v := ?_) (by rfl) ?_ ?_
        rotate_left
        · (intro w hSw; go_simp; try with_reducible rfl)
        try simp only [Act.put, List.setIfInBounds_toArray, List.set_cons_zero, List.set_cons_succ]
        refine Det.det_nil (fun W4 k4 => ?_)
        have Bf_4 := Bf_3.keep k4
        have Hw4 := bq_trans Hw3 k4
        clear k4 Bf_3 Hw3
        go_wp2_with fail
        have HB1 := Lib.hid (bq_trans HB.out Hw4)
        have BF1 := Bf_4
        have hs3 : (u ++ t1 ++ t3 ++ t2).size ≤ 5100 := by rw [ByteArray.size_append]; omega
        clear hs1 hs2 hsu ht1 ht2 ht3 hm1 hm2 HT2 HM HO rg hsz
        generalize u ++ t1 ++ t3 ++ t2 = v at *
        go_loopw [0, 9] (fun z i wr => StRel w bf #[.int .i64 18, .int .i64 r, .int .i64 g, .int .i64 b, .int .i64 a, .int .i64 m0, .int .i64 m1, .int .i64 m2, .int .i64 m3, .int .i64 m4, .int .i64 m5, .int .i64 (q : Int), .slice sa st.length sc, .int .i64 id] v st z i wr) (fun _ i _ => st.length - (intOf i).toNat)
        case atStart => exact ⟨0, by omega, rfl, by rw [List.take_zero]; exact congrArg Value.string (bs_nil9 v).symm, BF1, HB1.out⟩
        case round =>
          obtain ⟨j, hj, rfl, rfl, BF, hbel2⟩ := hrel
          have HBJ := Lib.hid hbel2
          clear hbel2 BF1
          have c12 : wr.cell? ⟨bf, 12, none⟩ = some (.slice sa st.length sc) := BF.cell 12
          by_cases hlt9 : j < st.length
          · obtain ⟨rfl, _, cs, _, ⟨h5, rfl, hbd⟩, hrg⟩ := SG9.out j hlt9
            have rg := rangeAt_keep hrg HBJ.out
            have hx9 := stop_ok hst9 (Int.le_refl 0) st[j] (List.getElem_mem hlt9)
            have hfl := flat_len stopB (st.take j) 5 fun x _ => stopB_len x
            have htl : (st.take j).length = j := by rw [List.length_take]; omega
            have hft := flat_take stopB st j hlt9
            obtain ⟨x0, x1, x2, x3, x4, hx⟩ := list5 _ h5
            rw [hx] at rg hx9 hft
            have hx0 : 0 ≤ x0 ∧ x0 ≤ 255 ∧ rgbaOk x1 x2 x3 x4 = true := hx9
            obtain ⟨p, rfl⟩ : ∃ p : Nat, x0 = (p : Int) := ⟨x0.toNat, by omega⟩
            have rg1 : wr.rangeAt sb (so + j * 5 + 1) (iL [x1, x2, x3, x4]) := fun n v hv => by
              have := rg (n + 1) v (by simpa [iL] using hv)
              rw [show so + j * 5 + 1 + n = so + j * 5 + (n + 1) by omega]
              exact this
            obtain ⟨y, hy⟩ : ∃ y, y = v ++ bs ((st.take j).flatMap stopB) := ⟨_, rfl⟩
            have hys : y.size ≤ 5200 := by rw [hy, ByteArray.size_append, bs_size]; omega
            have HT1 : Hid (∀ W, Calls Try.prog 37 #[.int .i64 (p : Int)] W fun e w' => e = .returned (.string (bs (by1 p))) ∧ Below W.heap.size W w') := Lib.hid fun W => refone_any p W (by omega)
            have ht1 : (bs (by1 p)).size ≤ 1 := by rw [bs_size]; exact Nat.le_refl _
            have HP2 : Hid (∀ W, Calls Try.prog 38 #[.string (y ++ bs (by1 p)), .agg (iL [x1, x2, x3, x4]).toArray] W fun e w' => e = .returned (.string (y ++ bs (by1 p) ++ bs (by4 x1 x2 x3 x4))) ∧ Below W.heap.size W w') := Lib.hid fun W => refputrgba_ok _ x1 x2 x3 x4 W (by rw [ByteArray.size_append]; omega) hx0.2.2
            have HZ : Hid (Value.string (y ++ bs (by1 p) ++ bs (by4 x1 x2 x3 x4)) = .string (v ++ bs ((st.take (j + 1)).flatMap stopB))) := Lib.hid (by
              rw [hy, cat_bs, cat_bs, hft]
              exact congrArg (fun l => Value.string (v ++ bs l)) (by first | exact List.append_assoc _ _ _ | rfl))
            rw [← hy]
            generalize bs (by1 p) = t1 at *
            generalize bs (by4 x1 x2 x3 x4) = t2 at *
            have i1 : (0 : Int) ≤ (j : Int) := by omega
            have i2 : (j : Int) < (st.length : Int) := by omega
            clear hy hrg hbd h5 hx9 hfl htl hft hx hx0 hst9
            go_upto_region 16 with (fail)
            have hnl : ¬ 9223372036854775807 < y.size + t1.size := by omega
            refine Det.wp_region_det (S := fun w' => Below wr.heap.size wr w') (by kernel_rfl) (by kernel_rfl) (bq_drew (bq_refl _)) ?_
            refine Det.det_take (v := ?_) (by rfl) ?_ ?_
            rotate_left
            · (intro w hSw; go_simp; try with_reducible rfl)
            try simp only [Act.put, List.setIfInBounds_toArray, List.set_cons_zero, List.set_cons_succ]
            refine Det.det_take (v := ?_) (by rfl) ?_ ?_
            rotate_left
            · (intro w hSw; go_simp; try with_reducible rfl)
            try simp only [Act.put, List.setIfInBounds_toArray, List.set_cons_zero, List.set_cons_succ]
            refine Det.det_take (v := ?_) (by rfl) ?_ ?_
            rotate_left
            · (intro w hSw; have cc := (BF.keep hSw).cell 12; go_simp; try with_reducible rfl)
            try simp only [Act.put, List.setIfInBounds_toArray, List.set_cons_zero, List.set_cons_succ]
            refine Det.det_take (v := ?_) (by rfl) ?_ ?_
            rotate_left
            · (intro w hSw; go_simp; try with_reducible rfl)
            try simp only [Act.put, List.setIfInBounds_toArray, List.set_cons_zero, List.set_cons_succ]
            refine Det.det_take (v := ?_) (by rfl) ?_ ?_
            rotate_left
            · (intro w hSw; go_simp; try with_reducible rfl)
            try simp only [Act.put, List.setIfInBounds_toArray, List.set_cons_zero, List.set_cons_succ]
            refine Det.det_take (v := ?_) (by rfl) ?_ ?_
            rotate_left
            · (intro w hSw; go_simp; try with_reducible rfl)
            try simp only [Act.put, List.setIfInBounds_toArray, List.set_cons_zero, List.set_cons_succ]
            refine Det.det_take (v := ?_) (by rfl) ?_ ?_
            rotate_left
            · (intro w hSw; have cc : w.cell? ⟨sb, so + j * 5, none⟩ = some (.int .i64 (p : Int)) := rangeAt_keep rg hSw 0 _ rfl; go_simp; try with_reducible rfl)
            try simp only [Act.put, List.setIfInBounds_toArray, List.set_cons_zero, List.set_cons_succ]
            refine Det.det_call (f := 37) (args := #[.int .i64 (p : Int)]) (v := .string t1) (by rfl) ?_ (fun w hS => (HT1.out w).mono fun e w' ⟨h1, h2⟩ => ⟨h1, bq_trans hS h2⟩) ?_
            · (intro w hSw; go_simp)
            try simp only [Act.put, List.setIfInBounds_toArray, List.set_cons_zero, List.set_cons_succ]
            refine Det.det_take (v := ?_) (by rfl) ?_ ?_
            rotate_left
            · (intro w hSw; go_simp; try with_reducible rfl)
            try simp only [Act.put, List.setIfInBounds_toArray, List.set_cons_zero, List.set_cons_succ]
            refine Det.det_take (v := ?_) (by rfl) ?_ ?_
            rotate_left
            · (intro w hSw; go_simp; try with_reducible rfl)
            try simp only [Act.put, List.setIfInBounds_toArray, List.set_cons_zero, List.set_cons_succ]
            refine Det.det_take (v := ?_) (by rfl) ?_ ?_
            rotate_left
            · (intro w hSw; have cc := (BF.keep hSw).cell 12; go_simp; try with_reducible rfl)
            try simp only [Act.put, List.setIfInBounds_toArray, List.set_cons_zero, List.set_cons_succ]
            refine Det.det_take (v := ?_) (by rfl) ?_ ?_
            rotate_left
            · (intro w hSw; go_simp; try with_reducible rfl)
            try simp only [Act.put, List.setIfInBounds_toArray, List.set_cons_zero, List.set_cons_succ]
            refine Det.det_take (v := ?_) (by rfl) ?_ ?_
            rotate_left
            · (intro w hSw; go_simp; try with_reducible rfl)
            try simp only [Act.put, List.setIfInBounds_toArray, List.set_cons_zero, List.set_cons_succ]
            refine Det.det_take (v := ?_) (by rfl) ?_ ?_
            rotate_left
            · (intro w hSw; go_simp; try with_reducible rfl)
            try simp only [Act.put, List.setIfInBounds_toArray, List.set_cons_zero, List.set_cons_succ]
            refine Det.det_mid 23 _ rfl (by rfl) _ _ rfl (iL [x1, x2, x3, x4]) _ (fun w hS => rangeAt_keep rg1 hS) Try.underlying23 rfl size23f ?_
            try simp only [Act.put, List.setIfInBounds_toArray, List.set_cons_zero, List.set_cons_succ]
            refine Det.det_call (f := 38) (args := #[.string (y ++ t1), .agg (iL [x1, x2, x3, x4]).toArray]) (v := .string (y ++ t1 ++ t2)) (by rfl) ?_ (fun w hS => (HP2.out w).mono fun e w' ⟨h1, h2⟩ => ⟨h1, bq_trans hS h2⟩) ?_
            · (intro w hSw; go_simp)
            try simp only [Act.put, List.setIfInBounds_toArray, List.set_cons_zero, List.set_cons_succ]
            refine Det.det_take (v := ?_) (by rfl) ?_ ?_
            rotate_left
            · (intro w hSw; go_simp; try with_reducible rfl)
            try simp only [Act.put, List.setIfInBounds_toArray, List.set_cons_zero, List.set_cons_succ]
            refine Det.det_nil (fun W41 k41 => ?_)
            have Bf_41 := BF.keep k41
            have Hw41 := k41
            clear k41 BF
            go_wp2_with fail
            go_roundw
            case rel => exact ⟨j + 1, by omega, by go_num, HZ.out, Bf_41, bq_trans HBJ.out Hw41⟩
            case measure => simp [intOf]; omega
          · obtain rfl : j = st.length := by omega
            have HQ : Hid (Value.string (v ++ bs ((st.take st.length).flatMap stopB)) = .string (s ++ bs (putP Fs (k + 1)))) := Lib.hid (by rw [List.take_length, HN.out])
            generalize v ++ bs ((st.take st.length).flatMap stopB) = y at *
            go_wp2_with fail
            go_roundw
            case rel => exact ⟨k + 1, by omega, by go_num, HQ.out, HBJ.out⟩
            case measure => simp [intOf]; omega
    · obtain rfl : k = Fs.length := by omega
      obtain ⟨u, hu⟩ : ∃ u, u = s ++ bs (putP Fs Fs.length) := ⟨_, rfl⟩
      have HU := Lib.hid hu
      have hsu : u.size ≤ 3000 := by
        have h1 : (putP Fs Fs.length).length ≤ 1 + Fs.length * 70 := by
          unfold putP
          rw [List.length_append, List.take_length]
          have e1 : (by1 Fs.length).length = 1 := rfl
          have : (Fs.flatMap fillB).length ≤ Fs.length * 70 := flat_len fillB _ 70 fun F hF => by
            obtain ⟨i, hi, hFi⟩ := List.getElem_of_mem hF
            obtain ⟨_, _, _, _, ⟨hfi, _⟩, _⟩ := FG.out i hi
            rw [hFi] at hfi
            exact fillB_len (OKF.out F hF) hfi
          omega
        rw [hu, ByteArray.size_append, bs_size]
        omega
      have HO : Hid (∀ W, Calls Try.prog 37 #[.int .i64 (xs.length : Int)] W fun e w' => e = .returned (.string (bs (by1 xs.length))) ∧ Below W.heap.size W w') := Lib.hid fun W => refone_any xs.length W (by omega)
      have ht1 : (bs (by1 xs.length)).size ≤ 1 := by rw [bs_size]; exact Nat.le_refl _
      have HE : Hid (u ++ bs (by1 xs.length) ++ bs (xs.flatMap lineB) = s ++ bs (listB Fs xs)) := Lib.hid (by
        rw [HU.out, cat_bs, cat_bs]
        exact congrArg (fun l => s ++ bs l) (by unfold putP listB; rw [List.take_length]; simp only [List.append_assoc]))
      have hnl : ¬ 9223372036854775807 < u.size + (bs (by1 xs.length)).size := by omega
      rw [← hu]
      clear hu FG OKF
      generalize bs (by1 xs.length) = t1 at *
      have hsv : (u ++ t1).size ≤ 3001 := by rw [ByteArray.size_append]; omega
      go_wp2_with (go_at_call 37; (with_reducible refine (HO.out _).mono ?_); rintro e w9 ⟨rfl, k9⟩)
      have HB9 := Lib.hid (bq_trans HB.out k9)
      clear k9 HO ht1 hnl hsu
      generalize u ++ t1 = v at *
      go_loopw [0, 10] (fun z i wr => LnRel w v xs z i wr) (fun _ i _ => xs.length - (intOf i).toNat)
      case atStart => exact ⟨0, by omega, rfl, by rw [List.take_zero]; exact congrArg Value.string (bs_nil9' v).symm, HB9.out⟩
      case round =>
        obtain ⟨j, hj, rfl, rfl, hbel2⟩ := hrel
        have HBJ := Lib.hid hbel2
        clear hbel2 HB9
        by_cases hlt9 : j < xs.length
        · obtain ⟨rfl, _, cs, _, ⟨h5, rfl, hbd⟩, hrg⟩ := XG.out j hlt9
          have rg := rangeAt_keep hrg HBJ.out
          have hx9 := OKX.out xs[j] (List.getElem_mem hlt9)
          have hfl := flat_len lineB (xs.take j) 6 fun x _ => lineB_len x
          have htl : (xs.take j).length = j := by rw [List.length_take]; omega
          have hft := flat_take lineB xs j hlt9
          obtain ⟨x0, x1, x2, x3, x4, hx⟩ := list5 _ h5
          rw [hx] at rg hx9 hft
          have hx0 : (0 ≤ x0 ∧ x0 < 65536) ∧ rgbaOk x1 x2 x3 x4 = true := by
            have : strokeOk x0 x1 x2 x3 x4 = true := hx9
            unfold strokeOk at this
            simp only [Bool.and_eq_true, decide_eq_true_eq] at this
            exact this
          obtain ⟨p, rfl⟩ : ∃ p : Nat, x0 = (p : Int) := ⟨x0.toNat, by omega⟩
          have rg1 : wr.rangeAt xb (xo + j * 5 + 1) (iL [x1, x2, x3, x4]) := fun n v hv => by
            have := rg (n + 1) v (by simpa [iL] using hv)
            rw [show xo + j * 5 + 1 + n = xo + j * 5 + (n + 1) by omega]
            exact this
          obtain ⟨y, hy⟩ : ∃ y, y = v ++ bs ((xs.take j).flatMap lineB) := ⟨_, rfl⟩
          have hys : y.size ≤ 5200 := by rw [hy, ByteArray.size_append, bs_size]; omega
          have HT2 : Hid (∀ W, Calls Try.prog 40 #[.int .i64 (p : Int)] W fun e w' => e = .returned (.string (bs (by2 p))) ∧ Below W.heap.size W w') := Lib.hid fun W => reftwo_any p W (by omega)
          have ht2 : (bs (by2 p)).size ≤ 2 := by rw [bs_size]; exact Nat.le_refl _
          have HP2 : Hid (∀ W, Calls Try.prog 38 #[.string (y ++ bs (by2 p)), .agg (iL [x1, x2, x3, x4]).toArray] W fun e w' => e = .returned (.string (y ++ bs (by2 p) ++ bs (by4 x1 x2 x3 x4))) ∧ Below W.heap.size W w') := Lib.hid fun W => refputrgba_ok _ x1 x2 x3 x4 W (by rw [ByteArray.size_append]; omega) hx0.2
          have HZ : Hid (Value.string (y ++ bs (by2 p) ++ bs (by4 x1 x2 x3 x4)) = .string (v ++ bs ((xs.take (j + 1)).flatMap lineB))) := Lib.hid (by
            rw [hy, cat_bs, cat_bs, hft]
            exact congrArg (fun l => Value.string (v ++ bs l)) (by first | exact List.append_assoc _ _ _ | rfl))
          rw [← hy]
          generalize bs (by2 p) = t2 at *
          generalize bs (by4 x1 x2 x3 x4) = t3 at *
          have i1 : (0 : Int) ≤ (j : Int) := by omega
          have i2 : (j : Int) < (xs.length : Int) := by omega
          have hnl : ¬ 9223372036854775807 < y.size + t2.size := by omega
          clear hy hrg hbd h5 hx9 hfl htl hft hx hx0
          go_upto_region 21 with (fail)
          refine Det.wp_region_det (S := fun w' => Below wr.heap.size wr w') (by kernel_rfl) (by kernel_rfl) (bq_drew (bq_refl _)) ?_
          refine Det.det_take (v := ?_) (by rfl) ?_ ?_
          rotate_left
          · (intro w hSw; go_simp; try with_reducible rfl)
          try simp only [Act.put, List.setIfInBounds_toArray, List.set_cons_zero, List.set_cons_succ]
          refine Det.det_take (v := ?_) (by rfl) ?_ ?_
          rotate_left
          · (intro w hSw; go_simp; try with_reducible rfl)
          try simp only [Act.put, List.setIfInBounds_toArray, List.set_cons_zero, List.set_cons_succ]
          refine Det.det_take (v := ?_) (by rfl) ?_ ?_
          rotate_left
          · (intro w hSw; go_simp; try with_reducible rfl)
          try simp only [Act.put, List.setIfInBounds_toArray, List.set_cons_zero, List.set_cons_succ]
          refine Det.det_take (v := ?_) (by rfl) ?_ ?_
          rotate_left
          · (intro w hSw; go_simp; try with_reducible rfl)
          try simp only [Act.put, List.setIfInBounds_toArray, List.set_cons_zero, List.set_cons_succ]
          refine Det.det_take (v := ?_) (by rfl) ?_ ?_
          rotate_left
          · (intro w hSw; go_simp; try with_reducible rfl)
          try simp only [Act.put, List.setIfInBounds_toArray, List.set_cons_zero, List.set_cons_succ]
          refine Det.det_take (v := ?_) (by rfl) ?_ ?_
          rotate_left
          · (intro w hSw; have cc : w.cell? ⟨xb, xo + j * 5, none⟩ = some (.int .i64 (p : Int)) := rangeAt_keep rg hSw 0 _ rfl; go_simp; try with_reducible rfl)
          try simp only [Act.put, List.setIfInBounds_toArray, List.set_cons_zero, List.set_cons_succ]
          refine Det.det_call (f := 40) (args := #[.int .i64 (p : Int)]) (v := .string t2) (by rfl) ?_ (fun w hS => (HT2.out w).mono fun e w' ⟨h1, h2⟩ => ⟨h1, bq_trans hS h2⟩) ?_
          · (intro w hSw; go_simp)
          try simp only [Act.put, List.setIfInBounds_toArray, List.set_cons_zero, List.set_cons_succ]
          refine Det.det_take (v := ?_) (by rfl) ?_ ?_
          rotate_left
          · (intro w hSw; go_simp; try with_reducible rfl)
          try simp only [Act.put, List.setIfInBounds_toArray, List.set_cons_zero, List.set_cons_succ]
          refine Det.det_take (v := ?_) (by rfl) ?_ ?_
          rotate_left
          · (intro w hSw; go_simp; try with_reducible rfl)
          try simp only [Act.put, List.setIfInBounds_toArray, List.set_cons_zero, List.set_cons_succ]
          refine Det.det_take (v := ?_) (by rfl) ?_ ?_
          rotate_left
          · (intro w hSw; go_simp; try with_reducible rfl)
          try simp only [Act.put, List.setIfInBounds_toArray, List.set_cons_zero, List.set_cons_succ]
          refine Det.det_take (v := ?_) (by rfl) ?_ ?_
          rotate_left
          · (intro w hSw; go_simp; try with_reducible rfl)
          try simp only [Act.put, List.setIfInBounds_toArray, List.set_cons_zero, List.set_cons_succ]
          refine Det.det_take (v := ?_) (by rfl) ?_ ?_
          rotate_left
          · (intro w hSw; go_simp; try with_reducible rfl)
          try simp only [Act.put, List.setIfInBounds_toArray, List.set_cons_zero, List.set_cons_succ]
          refine Det.det_mid 23 _ rfl (by rfl) _ _ rfl (iL [x1, x2, x3, x4]) _ (fun w hS => rangeAt_keep rg1 hS) Try.underlying23 rfl size23f ?_
          try simp only [Act.put, List.setIfInBounds_toArray, List.set_cons_zero, List.set_cons_succ]
          refine Det.det_call (f := 38) (args := #[.string (y ++ t2), .agg (iL [x1, x2, x3, x4]).toArray]) (v := .string (y ++ t2 ++ t3)) (by rfl) ?_ (fun w hS => (HP2.out w).mono fun e w' ⟨h1, h2⟩ => ⟨h1, bq_trans hS h2⟩) ?_
          · (intro w hSw; go_simp)
          try simp only [Act.put, List.setIfInBounds_toArray, List.set_cons_zero, List.set_cons_succ]
          refine Det.det_take (v := ?_) (by rfl) ?_ ?_
          rotate_left
          · (intro w hSw; go_simp; try with_reducible rfl)
          try simp only [Act.put, List.setIfInBounds_toArray, List.set_cons_zero, List.set_cons_succ]
          refine Det.det_nil (fun W31 k31 => ?_)
          have Hw31 := k31
          clear k31 
          go_wp2_with fail
          go_roundw
          case rel => exact ⟨j + 1, by omega, by go_num, HZ.out, bq_trans HBJ.out Hw31⟩
          case measure => simp [intOf]; omega
        · obtain rfl : j = xs.length := by omega
          have HQ : Hid (v ++ bs ((xs.take xs.length).flatMap lineB) = s ++ bs (listB Fs xs)) := Lib.hid (by rw [List.take_length, HE.out])
          generalize v ++ bs ((xs.take xs.length).flatMap lineB) = y at *
          go_wp2_with fail
          go_ret
          exact ⟨by rw [HQ.out]; rfl, HBJ.out⟩
end Go.Proofs.Ythlnjipefeglpaa
