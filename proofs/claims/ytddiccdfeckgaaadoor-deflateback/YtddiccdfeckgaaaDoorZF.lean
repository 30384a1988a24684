import Derived.Test.YtddiccdfeckgaaaDoorZE
import Derived.Lib.Mul64
import Derived.Laws.Bits64b
import Derived.Laws.CopyOwn
import Derived.Lib.AppendZeros
/- Layer 5: a product of two words; a list of one number, repeated. -/
namespace Go.Proofs.YtddiccdfeckgaaaDoor
open Go.RowKit
set_option maxRecDepth 100000
set_option linter.unusedVariables false
namespace Words
theorem maskN (a : Nat) (ha : a < 18446744073709551616) : bits .and .u64 (a : Int) 4294967295 = ((a % 4294967296 : Nat) : Int) := by
  have h := bits_and_u64_nat a 4294967295 ha (by omega)
  rw [show a &&& 4294967295 = a % 4294967296 from Nat.and_two_pow_sub_one_eq_mod a 32] at h
  exact h
theorem halfN (a : Nat) : (a : Int) / 4294967296 = ((a / 4294967296 : Nat) : Int) := by omega
theorem mulN (a b : Nat) : (a : Int) * (b : Int) = ((a * b : Nat) : Int) := by push_cast; rfl
theorem addN (a b : Nat) : (a : Int) + (b : Int) = ((a + b : Nat) : Int) := by push_cast; rfl
theorem inN (a : Nat) (ha : a < 18446744073709551616) : IntKind.u64.wrap (a : Int) = (a : Int) := by rw [IntKind.wrap_u64]; omega
theorem modN (a : Nat) : IntKind.u64.wrap (a : Int) = ((a % 18446744073709551616 : Nat) : Int) := by rw [IntKind.wrap_u64]; omega
end Words
theorem mul64_any (x y : Nat) (hx : x < 18446744073709551616) (hy : y < 18446744073709551616) (w : World) :
    Calls Tryd.prog 79 #[.int .u64 x, .int .u64 y] w fun e w' => e = .returned (.tuple #[.int .u64 ((x * y / 18446744073709551616 : Nat) : Int), .int .u64 ((x * y % 18446744073709551616 : Nat) : Int)]) ∧ w = w' := by
  obtain ⟨m1, m2, m3, m4⟩ := Lib.mul64_hi x y hx hy
  have p1 := Lib.half_mul_le (a := x / 4294967296) (b := y / 4294967296) (by omega) (by omega)
  have p2 := Lib.half_mul_le (a := x / 4294967296) (b := y % 4294967296) (by omega) (by omega)
  have p3 := Lib.half_mul_le (a := x % 4294967296) (b := y / 4294967296) (by omega) (by omega)
  generalize hA : x / 4294967296 * (y / 4294967296) = A at *
  generalize hB : x / 4294967296 * (y % 4294967296) = B at *
  generalize hC : x % 4294967296 * (y / 4294967296) = C at *
  generalize hD : x % 4294967296 * (y % 4294967296) = D at *
  have F := Lib.hid (And.intro hA (And.intro hB (And.intro hC (And.intro hD (And.intro m4 (And.intro hx hy))))))
  have G := Lib.hid (And.intro m1 (And.intro m2 (And.intro m3 (And.intro p1 (And.intro p2 p3)))))
  clear hA hB hC hD m1 m2 m3 m4 p1 p2 p3 hx hy
  go_enter Tryd.func79, Tryd.ntmps79
  go_wp2
  obtain ⟨hA, hB, hC, hD, m4, hx, hy⟩ := F.out
  obtain ⟨m1, m2, m3, p1, p2, p3⟩ := G.out
  simp only [Words.maskN x hx, Words.maskN y hy, Words.halfN, Words.mulN, hA, hB, hC, hD, Words.addN, Words.inN D (by omega), Words.inN B (by omega), Words.inN C (by omega), Words.inN A (by omega),
    Words.inN _ m2, Words.maskN _ m2, Words.inN _ m3, Words.inN (A + (B + D / 4294967296) / 4294967296) (by omega), Words.inN (x * y / 18446744073709551616) (by rw [← m4]; omega), Words.modN (x * y), m4]
  go_ret2
  exact ⟨rfl, rfl⟩
/-- a product by one -/
theorem mul_one (n : Nat) (hn : n ≤ 1000000) (w : World) :
    Calls Tryd.prog 62 #[.int .u64 1, .int .u64 (n : Int)] w fun e w' => e = .returned (.tuple #[.int .u64 0, .int .u64 (n : Int)]) ∧ w = w' := by
  have h := mul64_any 1 n (by omega) (by omega) w
  rw [Nat.one_mul, Nat.div_eq_of_lt (by omega), Nat.mod_eq_of_lt (by omega)] at h
  have H := Lib.hid h
  clear h
  go_enter Tryd.func62, Tryd.ntmps62
  go_wp2_with (go_at_call 79; refine H.out.mono ?_; rintro e w' ⟨rfl, rfl⟩)
  go_ret2
  exact ⟨rfl, rfl⟩
section
variable {ops : Array Oper} {rest : List Oper} {o : Oper} {a : Act} {Q : Exit → Act → World → Prop}
theorem step_copy_run {W w' : World} {v x v' : Value} {t u : TypeId} {K : Act → World → Prop} {E : Prop} (hgd : o.guard = none) (sx xx : Operand) (ho : o.op = .call { callee := .builtin .copy, args := #[sx, xx], argTypes := #[t, u] })
    (hs : a.eval sx = v) (hx : a.eval xx = x) (hrun : (Builtin.copy_ #[t, u] o.type #[v, x]).run Tryd.prog W = .ok v' w') (h : K (a.put o.dst v') w') :
    if Region.wanted o (yielded ops a.tmps) = true then Oper.wp Tryd.prog o a W K Q else E := by
  have hw : Region.wanted o (yielded ops a.tmps) = true := by simp [Region.wanted, hgd]
  rw [if_pos hw]
  unfold Oper.wp execOp
  simp only [ho, resolve, invoke, builtin, Sem.run_bind, Sem.run_pure, Result.andThen_ok, List.map_toArray, List.map_cons, List.map_nil, hs, hx, hrun]
  exact h
end
/-- k times v, and zeros -/
def rpL (v : Int) (k n : Nat) : List Value := List.replicate k (.int .i64 v) ++ List.replicate (n - k) (.int .i64 0)
theorem rpL_len (v : Int) (k n : Nat) (h : k ≤ n) : (rpL v k n).length = n := by simp [rpL]; omega
theorem rpL_zero (v : Int) (n : Nat) : rpL v 0 n = (intA (fun _ => 0) n).toList := by rw [← intA_zero]; simp [rpL]
theorem rpL_full (v : Int) (n : Nat) : rpL v n n = List.replicate n (.int .i64 v) := by simp [rpL]
theorem rpL_splice (v : Int) (k m n : Nat) (h : k + m ≤ n) : splice (rpL v k n) k (List.replicate m (.int .i64 v)) = rpL v (k + m) n := by
  unfold splice rpL
  have e1 : (List.replicate k (Value.int .i64 v) ++ List.replicate (n - k) (Value.int .i64 0)).take k = List.replicate k (.int .i64 v) := by
    have := List.take_left (l₁ := List.replicate k (Value.int .i64 v)) (l₂ := List.replicate (n - k) (Value.int .i64 0))
    rwa [List.length_replicate] at this
  have e2 : (List.replicate k (Value.int .i64 v) ++ List.replicate (n - k) (Value.int .i64 0)).drop (k + (List.replicate m (Value.int .i64 v)).length) = List.replicate (n - (k + m)) (.int .i64 0) := by
    rw [List.drop_append, List.length_replicate, List.length_replicate, List.drop_eq_nil_of_le (by simp), List.nil_append, List.drop_replicate]
    congr 1; omega
  rw [e1, e2, ← List.append_assoc, List.replicate_append_replicate]
theorem rpL_src (v : Int) (k n j : Nat) (x : Value) (m : Nat) (hm : m ≤ k) (h : (List.replicate m (Value.int .i64 v))[j]? = some x) : (rpL v k n)[j]? = some x := by
  have hj : j < m := by have := (List.getElem?_eq_some_iff.1 h).1; simpa using this
  unfold rpL
  rw [List.getElem?_append_left (by simp; omega), ← h]
  simp [hj, show j < k by omega]
def RpRel (w : World) (h : Nat) (v : Int) (n : Nat) (t : Value) (wr : World) : Prop := ∃ k : Nat, 1 ≤ k ∧ k ≤ n ∧ t = .int .i64 (k : Int) ∧ Blk wr h (rpL v k n).toArray 3 ∧ Below w.heap.size w wr
def RptPost (w : World) (v : Int) (n : Nat) (e : Ending) (w' : World) : Prop := ∃ h, w.heap.size ≤ h ∧ Blk w' h (List.replicate n (Value.int .i64 v)).toArray 3 ∧ e = .returned (.slice (some ⟨h, 0, none⟩) n n) ∧ Below w.heap.size w w'
theorem size3 : (Tryd.prog.info? 3).map (·.size) = some 1 := by kernel_rfl
set_option maxHeartbeats 4000000 in
set_option maxRecDepth 100000 in
theorem repeat_any (v : Int) (n g : Nat) (w : World) (hg : Blk w g #[.int .i64 v] 3) (h1 : 1 ≤ n) (hn : n ≤ 1000) :
    Calls Tryd.prog 38 #[.slice (some ⟨g, 0, none⟩) 1 1, .int .i64 (n : Int)] w (RptPost w v n) := by
  have HG := Lib.hid hg
  clear hg
  have d1 : decide ((n : Int) < 0) = false := by rw [decide_eq_false_iff_not]; omega
  have d2 : decide (9223372036854775807 < (n : Int)) = false := by rw [decide_eq_false_iff_not]; omega
  go_enter Tryd.func38, Tryd.ntmps38
  go_upto_region 7 with (first
    | (go_at_call 62; refine (mul_one n (by omega) _).mono ?_; rintro e w' ⟨rfl, rfl⟩)
    | (refine wl_ints _ _ rfl rfl n rfl rfl (by omega) ?_; intro W1 h Bh lh kh))
  have HB := Lib.hid Bh
  have HK := Lib.hid kh
  clear Bh kh
  go_upto_region 8 with (refine wpList_copy_splice rfl _ _ _ _ rfl 3 Tryd.underlying41 size3 _ _ _ _ _ _ rfl rfl h 0 (intA (fun _ => 0) n).toList 3 HB.out [.int .i64 v] (by rw [List.length_singleton]; show 1 = min 1 n; omega) (fun _ => ⟨rfl, _, rfl, fun j x hj => by
      cases j with
      | zero => rw [Addr.add_mid]; exact ((HG.out.keep HK.out).cell 0).trans (by simpa using hj)
      | succ j => simp at hj⟩) (by rw [← rpL_zero v, rpL_len v 0 n (by omega), List.length_singleton]; omega) (by simp [Value.oneCell']) w.heap.size w HK.out lh ?_; intro W2 hg2 hb2)
  have HB2 : Hid (Blk W2 h (rpL v 1 n).toArray 3) := Lib.hid (by
    have := hg2.out
    rw [← rpL_zero v, show [Value.int .i64 v] = List.replicate 1 (.int .i64 v) by rfl, rpL_splice v 0 1 n (by omega)] at this
    exact this)
  have HK2 := Lib.hid hb2
  clear hg2 hb2 HB HK HG
  go_loopw [8] (fun t wr => RpRel w h v n t wr) (fun t _ => n - (intOf t).toNat)
  case atStart => exact ⟨1, by omega, by omega, rfl, HB2.out, HK2.out⟩
  case round =>
    obtain ⟨k, hk1, hkn, rfl, hB3, hK3⟩ := hrel
    have HB3 := Lib.hid hB3
    have HK3 := Lib.hid hK3
    clear hB3 hK3 HB2 HK2
    by_cases hlt : k < n
    · have hmin : min k (n - k) ≤ k ∧ k + min k (n - k) ≤ n ∧ 1 ≤ min k (n - k) := by omega
      obtain ⟨m, hm⟩ : ∃ m, m = min k (n - k) := ⟨_, rfl⟩
      rw [← hm] at hmin
      have HM := Lib.hid hm
      clear hm
      go_wp2_with fail
      have hn0 : ¬ n = k := by omega
      have hkn2 : (k : Int) ≤ (n : Int) := by omega
      have hlt2 : ((k : Int) < (n : Int)) := by omega
      have hlt3 : (decide ((k : Int) < (n : Int))) = true := by simp [hlt]
      have hrun : ∃ w', (Builtin.copy_ #[41, 41] 3 #[.slice (some ⟨h, k, none⟩) (n - k) (n - k), .slice (some ⟨h, 0, none⟩) k n]).run Tryd.prog wr.drew = .ok (.int .i64 (m : Int)) w' ∧ Hid (Blk w' h (rpL v (k + m) n).toArray 3 ∧ Below w.heap.size w w') := by
        have hr := run_copy_row (P := Tryd.prog) wr.drew 41 41 3 3 h k (n - k) (n - k) ⟨h, 0, none⟩ k n (rpL v k n).toArray 3 (List.replicate m (.int .i64 v)) Tryd.underlying41 size3 HB3.out (by rw [List.length_replicate]; exact HM.out)
          (fun j x hj => by rw [Addr.add_mid, Nat.zero_add]; exact ((show Blk wr.drew h _ _ from HB3.out).cell j).trans (by rw [List.getElem?_toArray]; exact rpL_src v k n j x m hmin.1 hj))
          (by rw [List.size_toArray, rpL_len v k n hkn, List.length_replicate]; exact hmin.2.1) (fun x hx => by rw [List.eq_of_mem_replicate hx]; rfl)
        rw [List.length_replicate] at hr
        refine ⟨_, hr, Lib.hid ⟨?_, bq_row (bq_drew HK3.out) h lh _⟩⟩
        have := (show Blk wr.drew h _ _ from HB3.out).row ((rpL v (k + m) n).toArray)
        have e := rpL_splice v k m n hmin.2.1
        unfold splice at e
        rw [List.length_replicate, ← List.append_assoc] at e
        rw [e]
        exact this
      obtain ⟨w7, hrun, HF⟩ := hrun
      have HRUN := Lib.hid hrun
      have hm1 : (0 : Int) ≤ (m : Int) ∧ (m : Int) ≤ 1000 := by omega
      clear hrun HM
      go_region_law (refine step_copy_run (by rfl) _ _ (by rfl) (by rfl) (by rfl) HRUN.out ?_)
      all_goals
        simp only [Act.put, List.getElem_toArray, List.getElem_cons_succ, List.getElem_cons_zero, List.setIfInBounds_toArray, List.set_cons_zero, List.set_cons_succ]
        rw [i64_wrap ((k : Int) + (m : Int)) (by omega) (by omega)]
        go_wp2
        go_roundw
        case rel => exact ⟨k + m, by omega, by omega, by go_num, HF.out.1, HF.out.2⟩
        case measure => simp [intOf]; omega
    · obtain rfl : k = n := by omega
      go_wp2
      go_ret
      exact ⟨h, lh, by rw [← rpL_full]; exact HB3.out, rfl, HK3.out⟩
end Go.Proofs.YtddiccdfeckgaaaDoor
/- Layer 5: lists behind one another. -/
namespace Go.Proofs.YtddiccdfeckgaaaDoor
open Go.RowKit
set_option maxRecDepth 100000
set_option linter.unusedVariables false
/-- a list of numbers of the call's own -/
def OwnL (w : World) (B : Nat) (sl : Value) (xs : List Int) : Prop := w.ownsRow B 3 1 sl xs.length (xs.map fun x => Value.int .i64 x)
def GrPost (w : World) (e : Ending) (w' : World) : Prop := ∃ sl, e = .returned sl ∧ OwnL w' w.heap.size sl [] ∧ Below w.heap.size w w'
set_option maxRecDepth 100000 in
theorem grow_nil (n : Nat) (w : World) (h0 : 0 < n) (hn : n ≤ 1000) : Calls Tryd.prog 61 #[.slice none 0 0, .int .i64 (n : Int)] w (GrPost w) := by
  obtain ⟨i0, hi, hz0, hz1, hz2⟩ := info_parts int_info
  have hrun := Lib.run_append_nil_zeros (P := Tryd.prog) w 41 3 41 3 i0 (.int .i64 0) .i64 .i64 Tryd.underlying41 Tryd.underlying3 hi hz0 n h0 (by omega) (by omega) (by rw [hz2]; omega)
  have hge := grownCap_ge w n 0 3
  have hcm : grownCap w n 0 3 ≤ maxLen := grownCap_le_maxLen w n 0 3 (by unfold maxLen; omega)
  generalize grownCap w n 0 3 = c at *
  have HF : Hid (OwnL (w.drew.alloc (.cells (Builtin.zeroCells (Value.int .i64 0).cells n ++ Builtin.zeroCells (Value.int .i64 0).cells (c - n)) 3)) w.heap.size (.slice (some ⟨w.heap.size, 0, none⟩) 0 c) [] ∧ Below w.heap.size w (w.drew.alloc (.cells (Builtin.zeroCells (Value.int .i64 0).cells n ++ Builtin.zeroCells (Value.int .i64 0).cells (c - n)) 3))) := Lib.hid (by
    refine ⟨⟨rfl, .inr ⟨w.heap.size, _, _, rfl, Nat.le_refl _, heap_alloc_new w.drew _, Nat.zero_le _, hcm, ?_, by simp⟩⟩, bq_alloc (bq_drew (bq_refl w)) _⟩
    simp only [Array.size_append, size_zeroCells]
    rw [show (Value.int IntKind.i64 0).cells.size = 1 by rfl]
    omega)
  generalize w.drew.alloc (.cells (Builtin.zeroCells (Value.int .i64 0).cells n ++ Builtin.zeroCells (Value.int .i64 0).cells (c - n)) 3) = W at *
  have HRUN := Lib.hid hrun
  have HN : n ≤ c := hge
  clear hrun hge hi hz0 hz1 hz2 hcm
  go_enter Tryd.func61, Tryd.ntmps61
  go_upto_region 5 with (fail)
  go_wp2_with (at_builtin; refine wl_append rfl (.tmp 20) (.tmp 21) rfl (v := .slice none 0 0) (x := .int .i64 (n : Int)) rfl rfl HRUN.out ?_)
  go_ret
  exact ⟨_, rfl, HF.out.1, HF.out.2⟩
/-- the parts of a join: the block, the number, how many times -/
def ptL (L : List (Nat × Int × Nat)) : List Int := L.flatMap fun q => List.replicate q.2.2 q.2.1
def ptN (L : List (Nat × Int × Nat)) : Nat := (ptL L).length
theorem ptL_succ (L : List (Nat × Int × Nat)) (k : Nat) (h : k < L.length) : ptL (L.take (k + 1)) = ptL (L.take k) ++ List.replicate L[k].2.2 L[k].2.1 := by
  unfold ptL
  rw [List.take_succ_eq_append_getElem h, List.flatMap_append]
  simp
theorem ptN_succ (L : List (Nat × Int × Nat)) (k : Nat) (h : k < L.length) : ptN (L.take (k + 1)) = ptN (L.take k) + L[k].2.2 := by
  unfold ptN
  rw [ptL_succ L k h, List.length_append, List.length_replicate]
theorem ptN_le (L : List (Nat × Int × Nat)) (k : Nat) : ptN (L.take k) ≤ ptN L := by
  unfold ptN ptL
  conv => rhs; rw [← List.take_append_drop k L, List.flatMap_append, List.length_append]
  omega
/-- the parts lie in memory; the slices of them in block g -/
structure Pt (w : World) (g : Nat) (L : List (Nat × Int × Nat)) : Prop where
  cell : ∀ i (h : i < L.length), w.cell? ⟨g, i, none⟩ = some (.slice (some ⟨L[i].1, 0, none⟩) L[i].2.2 L[i].2.2)
  blk : ∀ i (h : i < L.length), Blk w L[i].1 (List.replicate L[i].2.2 (Value.int .i64 L[i].2.1)).toArray 3
theorem Pt.keep {w w' : World} {g : Nat} {L : List (Nat × Int × Nat)} (h : Pt w g L) (hb : Below w.heap.size w w') : Pt w' g L :=
  ⟨fun i hi => by rw [hb.cell (p := ⟨g, i, none⟩) (block_lt_of_cell (h.cell i hi))]; exact h.cell i hi, fun i hi => (h.blk i hi).keep hb⟩
theorem OwnL.more {w : World} {B h n : Nat} {sl : Value} {xs : List Int} {v : Int} (ho : OwnL w B sl xs) (hB : B ≤ w.heap.size) (hb : Blk w h (List.replicate n (Value.int .i64 v)).toArray 3) (hx : xs.length + n ≤ 1000) (ty : TypeId) :
    ∃ sl' w', (Builtin.append_ #[41, 41] ty #[sl, .slice (some ⟨h, 0, none⟩) n n]).run Tryd.prog w = .ok sl' w' ∧ Hid (OwnL w' B sl' (xs ++ List.replicate n v) ∧ Below B w w') := by
  obtain ⟨i0, hi, hz0, hz1, hz2⟩ := info_parts int_info
  obtain ⟨sl', w', hr, h2, h3, _, h5⟩ := run_append_own_at (P := Tryd.prog) w B 41 ty 3 i0 (.int .i64 0) 1 8 Tryd.underlying41 hi hz0 hz1 hz2 rfl (by decide) sl xs.length _ ho ⟨h, 0, none⟩ n n (List.replicate n (.int .i64 v)) (by simp)
    (World.news_of_block (cs := (List.replicate n (Value.int .i64 v)).toArray) hb) (fun x hx => by rw [List.eq_of_mem_replicate hx]; rfl) (by unfold maxLen; omega) (by omega) hB
  refine ⟨sl', w', hr, Lib.hid ⟨?_, h3.os, h3.tape, h3.output, h3.size, fun k hk => h3.block k (by omega) (fun e => ?_)⟩⟩
  · unfold OwnL
    rw [List.length_append, List.length_replicate, List.map_append, List.map_replicate]
    exact h2
  · have := (World.ownsRow.lt ho k e.symm).1
    omega
def C1Rel (w : World) (L : List (Nat × Int × Nat)) (t i : Value) : Prop := ∃ k : Nat, k ≤ L.length ∧ i = .int .i64 (k : Int) ∧ t = .int .i64 (ptN (L.take k) : Int)
def C2Rel (w : World) (L : List (Nat × Int × Nat)) (v i : Value) (wr : World) : Prop := ∃ k : Nat, k ≤ L.length ∧ i = .int .i64 (k : Int) ∧ OwnL wr w.heap.size v (ptL (L.take k)) ∧ Below w.heap.size w wr
def CcPost (w : World) (L : List (Nat × Int × Nat)) (e : Ending) (w' : World) : Prop := ∃ sl, e = .returned sl ∧ OwnL w' w.heap.size sl (ptL L) ∧ Below w.heap.size w w'
set_option maxHeartbeats 1000000 in
set_option maxRecDepth 100000 in
theorem concat_any (L : List (Nat × Int × Nat)) (g : Nat) (w : World) (hp : Pt w g L) (hl : L.length ≤ 100) (h0 : 0 < ptN L) (hn : ptN L ≤ 1000) :
    Calls Tryd.prog 37 #[.slice (some ⟨g, 0, none⟩) L.length L.length] w (CcPost w L) := by
  have HP := Lib.hid hp
  have HL : Hid (ptN (L.take L.length) = ptN L) := Lib.hid (by rw [List.take_length])
  have HL2 : Hid (ptL (L.take L.length) = ptL L) := Lib.hid (by rw [List.take_length])
  obtain ⟨m, hm⟩ : ∃ m, m = L.length := ⟨_, rfl⟩
  have HM := Lib.hid hm
  rw [← hm] at hl HL HL2 ⊢
  clear hp hm
  go_enter Tryd.func37, Tryd.ntmps37
  go_wp2
  go_loop [3, 11] (fun t i => C1Rel w L t i) (fun _ i => m - (intOf i).toNat)
  case atStart => exact ⟨0, Nat.zero_le _, rfl, rfl⟩
  case round =>
    obtain ⟨k, hk, rfl, rfl⟩ := hrel
    rw [← HM.out] at hk
    have hle := ptN_le L k
    by_cases hlt : k < m
    · have hkl : k < L.length := by rw [← HM.out]; exact hlt
      have hc := HP.out.cell k hkl
      have HS := Lib.hid (ptN_succ L k hkl)
      have hle2 := ptN_le L (k + 1)
      rw [HS.out] at hle2
      obtain ⟨q, hq⟩ : ∃ q, q = L[k] := ⟨_, rfl⟩
      rw [← hq] at hc hle2 HS
      obtain ⟨qa, qb, qc⟩ := q
      dsimp only at hc hle2 HS
      generalize ptN (L.take k) = T at *
      clear hq hkl
      go_wp2
      go_round
      case rel => exact ⟨k + 1, by rw [← HM.out]; omega, by go_num, by rw [HS.out]; go_num⟩
      case measure => simp [intOf]; omega
    · obtain rfl : k = m := by omega
      rw [HL.out]
      have HG := Lib.hid (grow_nil (ptN L) w h0 hn)
      obtain ⟨T, hT⟩ : ∃ T, T = ptN L := ⟨_, rfl⟩
      have HT := Lib.hid hT
      rw [← hT] at HG h0 hn ⊢
      clear hle hT
      go_wp2_with (go_at_call 61; refine HG.out.mono ?_; rintro e w2 ⟨sl2, rfl, ho2, hb2⟩)
      have HO2 := Lib.hid ho2
      have HB2 := Lib.hid hb2
      clear ho2 hb2 HG
      go_loopw [6, 27] (fun v i wr => C2Rel w L v i wr) (fun _ i _ => k - (intOf i).toNat)
      case atStart => exact ⟨0, Nat.zero_le _, rfl, HO2.out, HB2.out⟩
      case round =>
        rename_i v i wo
        obtain ⟨j, hj, rfl, hoj, hbj⟩ := hrel
        rw [← HM.out] at hj
        by_cases hlt2 : j < k
        · have hkl : j < L.length := by rw [← HM.out]; exact hlt2
          have hc := (HP.out.keep hbj).cell j hkl
          have hbl := (HP.out.keep hbj).blk j hkl
          have HS := Lib.hid (ptL_succ L j hkl)
          have HSN := Lib.hid (ptN_succ L j hkl)
          have hle2 : Hid (ptN (L.take (j + 1)) ≤ T) := Lib.hid (by have := ptN_le L (j + 1); have := HT.out; omega)
          obtain ⟨q, hq⟩ : ∃ q, q = L[j] := ⟨_, rfl⟩
          rw [← hq] at hc hbl HS HSN
          obtain ⟨qa, qb, qc⟩ := q
          dsimp only at hc hbl HS HSN
          obtain ⟨sl3, w3, hrun, HF⟩ := OwnL.more hoj hbj.size hbl (by have := HSN.out; have := hle2.out; unfold ptN at *; omega) 41
          have HRUN := Lib.hid hrun
          have HBJ := Lib.hid hbj
          clear hrun hoj hbj hbl hq hkl
          go_wp2_with (at_builtin; refine wl_append rfl (.tmp 31) (.tmp 32) rfl rfl rfl HRUN.out ?_)
          go_roundw
          case rel => exact ⟨j + 1, by rw [← HM.out]; omega, by go_num, by rw [HS.out]; exact HF.out.1, HBJ.out.trans HF.out.2⟩
          case measure => simp [intOf]; omega
        · obtain rfl : j = k := by omega
          rw [HL2.out] at hoj
          have HOJ := Lib.hid hoj
          have HBJ := Lib.hid hbj
          clear hoj hbj
          go_wp2
          go_ret
          exact ⟨_, rfl, HOJ.out, HBJ.out⟩
end Go.Proofs.YtddiccdfeckgaaaDoor
/- Layer 5: the fixed codes. -/
namespace Go.Proofs.YtddiccdfeckgaaaDoor
open Go.RowKit
set_option maxRecDepth 100000
set_option linter.unusedVariables false
theorem OwnL.ints {w : World} {B : Nat} {sl : Value} {xs : List Int} (h : OwnL w B sl xs) (hx : ∀ x ∈ xs, 0 ≤ x ∧ x ≤ 1000) (h0 : 0 < xs.length) : ∃ g c, sl = .slice (some ⟨g, 0, none⟩) xs.length c ∧ Ints w xs (some ⟨g, 0, none⟩) g 0 := by
  obtain ⟨g, c, rfl, _, _⟩ := World.ownsRow.form h h0
  refine ⟨g, c, rfl, Or.inr rfl, fun i hi => ?_, fun i hi => ?_⟩
  · have := hx _ (List.getElem_mem hi); omega
  · have := World.ownsRow.cells h (g := g) rfl i (.int .i64 xs[i]) (by simp [hi])
    rwa [Addr.add_mid] at this
def fixQ (a b c d : Nat) : List (Nat × Int × Nat) := [(a, 8, 144), (b, 9, 112), (c, 7, 24), (d, 8, 8)]
theorem fixQ_eq (a b c d : Nat) : ptL (fixQ a b c d) = I.fixA := by unfold ptL fixQ I.fixA; simp only [List.flatMap_cons, List.flatMap_nil, List.append_nil, List.append_assoc]
theorem fixA_len : I.fixA.length = 288 := by decide +kernel
theorem fixQ_len (a b c d : Nat) : ptN (fixQ a b c d) = 288 := by unfold ptN; rw [fixQ_eq, fixA_len]
theorem fixA_mem : ∀ x ∈ I.fixA, 0 ≤ x ∧ x ≤ 1000 := by
  intro x hx
  unfold I.fixA at hx
  simp only [List.mem_append, List.mem_replicate] at hx
  omega
theorem fixD_len : I.fixD.length = 32 := by decide +kernel
theorem fixA_err : errN I.fixA = 0 := by decide +kernel
theorem fixD_err : errN I.fixD = 0 := by decide +kernel
theorem rep_ints {w : World} {h n : Nat} {v : Int} (hb : Blk w h (List.replicate n (Value.int .i64 v)).toArray 3) (hv : 0 ≤ v ∧ v ≤ 1000) : Ints w (List.replicate n v) (some ⟨h, 0, none⟩) h 0 := by
  refine ⟨Or.inr rfl, fun i hi => ?_, fun i hi => ?_⟩
  · rw [List.getElem_replicate]; omega
  · rw [Nat.zero_add, hb.cell i, List.getElem_replicate]
    rw [List.length_replicate] at hi
    simp [hi]
def FxPost (w : World) (e : Ending) (w' : World) : Prop := ∃ ga gd, w.heap.size ≤ ga ∧ w.heap.size ≤ gd ∧ Tb w' I.fixA ga ∧ Tb w' I.fixD gd ∧ e = .returned (.agg (cdV I.fixA I.fixD ga gd)) ∧ Below w.heap.size w w'
theorem rpt_call (v : Int) (n : Nat) (W w : World) (h1 : 1 ≤ n) (hn : n ≤ 1000) (hb : Below W.heap.size W w) :
    Calls Tryd.prog 38 #[.slice (some ⟨w.heap.size, 0, none⟩) 1 1, .int .i64 (n : Int)] (w.alloc (.cells #[.int .i64 v] 3)) fun e w' => ∃ h, w.heap.size ≤ h ∧ Blk w' h (List.replicate n (Value.int .i64 v)).toArray 3 ∧ e = .returned (.slice (some ⟨h, 0, none⟩) n n) ∧ Hid (Below w.heap.size w w') ∧ Hid (Below W.heap.size W w') := by
  refine (repeat_any v n w.heap.size _ (blk_new w _ 3) h1 hn).mono ?_
  rintro e w' ⟨h, l, B, rfl, k⟩
  have k2 : Below w.heap.size w w' := bq_trans (bq_alloc (bq_refl w) _) k
  exact ⟨h, by simp at l; omega, B, rfl, Lib.hid k2, Lib.hid (bq_trans hb k2)⟩
set_option maxHeartbeats 1000000 in
set_option maxRecDepth 100000 in
theorem fixed_any (w : World) : Calls Tryd.prog 16 #[] w (FxPost w) := by
  go_enter Tryd.func16, Tryd.ntmps16
  go_upto_region 1 with (refine wl_alloc 45 _ zero47 rfl rfl ?_; intro W0 b0 B0 l0 k0)
  go_wp2_with fail
  refine (rpt_call 8 144 w W0 (by omega) (by omega) k0).mono ?_
  rintro e w1 ⟨h1, l1, B1, rfl, hs1, hk1⟩
  go_wp2_with fail
  refine (rpt_call 9 112 w w1 (by omega) (by omega) hk1.out).mono ?_
  rintro e w2 ⟨h2, l2, B2, rfl, hs2, hk2⟩
  go_wp2_with fail
  refine (rpt_call 7 24 w w2 (by omega) (by omega) hk2.out).mono ?_
  rintro e w3 ⟨h3, l3, B3, rfl, hs3, hk3⟩
  go_wp2_with fail
  refine (rpt_call 8 8 w w3 (by omega) (by omega) hk3.out).mono ?_
  rintro e w4 ⟨h4, l4, B4, rfl, hs4, hk4⟩
  have C1 := Lib.hid (((B1.keep hs2.out).keep hs3.out).keep hs4.out)
  have C2 := Lib.hid ((B2.keep hs3.out).keep hs4.out)
  have C3 := Lib.hid (B3.keep hs4.out)
  have C4 := Lib.hid B4
  have D0 := Lib.hid ((((B0.keep hs1.out).keep hs2.out).keep hs3.out).keep hs4.out)
  have lb0 : w.heap.size ≤ b0 := l0
  clear B0 B1 B2 B3 B4 hs1 hs2 hs3 hs4 hk1 hk2 hk3 k0 l1 l2 l3 l4 l0
  go_wp2_with fail
  refine (concat_any (fixQ h1 h2 h3 h4) w4.heap.size _ ?_ (by simp [fixQ]) (by rw [fixQ_len]; omega) (by rw [fixQ_len]; omega)).mono ?_
  · refine ⟨fun i hi => ?_, fun i hi => ?_⟩
    · rw [(blk_new w4 _ _).cell i]
      match i, hi with
      | 0, _ => rfl
      | 1, _ => rfl
      | 2, _ => rfl
      | 3, _ => rfl
      | i + 4, hi => exact absurd hi (by simp [fixQ])
    · match i, hi with
      | 0, _ => exact C1.out.alloc _
      | 1, _ => exact C2.out.alloc _
      | 2, _ => exact C3.out.alloc _
      | 3, _ => exact C4.out.alloc _
      | i + 4, hi => exact absurd hi (by simp [fixQ])
  rintro e w5 ⟨sl5, rfl, ho5, hb5⟩
  rw [fixQ_eq] at ho5
  obtain ⟨g5, c5, rfl, hi5⟩ := ho5.ints fixA_mem (by rw [fixA_len]; omega)
  have k5 : Below w4.heap.size w4 w5 := bq_trans (bq_alloc (bq_refl w4) _) hb5
  have D5 := Lib.hid (D0.out.keep k5)
  have HI5 := Lib.hid hi5
  have HK5 := Lib.hid (bq_trans hk4.out k5)
  clear C1 C2 C3 C4 D0 ho5 hb5 hi5 hk4 k5
  go_wp2_with fail
  refine (rpt_call 5 32 w w5 (by omega) (by omega) HK5.out).mono ?_
  rintro e w6 ⟨h6, l6, B6, rfl, hs6, hk6⟩
  have D6 := Lib.hid (D5.out.keep hs6.out)
  have HI6 := Lib.hid (HI5.out.keep hs6.out)
  have HJ6 : Hid (Ints w6 I.fixD (some ⟨h6, 0, none⟩) h6 0) := Lib.hid (rep_ints (v := 5) B6 (by omega))
  have HMD := Lib.hid (made_ok I.fixA I.fixD _ _ _ _ _ _ c5 32 w6 HI6 HJ6 fixA_err fixD_err)
  rw [fixD_len] at HMD
  clear D5 HI5 HK5 HI6 HJ6 B6 l6 hs6
  go_wp2_with (first
    | (go_at_call 39; refine HMD.out.mono ?_; rintro e w7 ⟨ga, gd, lga, lgd, ta, td, rfl, hb7⟩)
    | (refine wl_alloc 45 _ zero47 rfl rfl ?_; intro W8 b8 B8 l8 k8)
    | (refine wl_store 45 34 size47 _ _ rfl rfl b8 rfl (cdV I.fixA I.fixD ga gd) rfl _ _ B8 zeroC_size (cdV_size _ _ _ _) (cdV_one _ _ _ _) ?_; intro W9 hB9 hT9)
    | (refine wl_load 45 34 _ Tryd.underlying45 rfl size47 _ rfl rfl _ rfl _ _ hB9 (cdV_size _ _ _ _) ?_)
    | (refine wl_store 45 34 size47 _ _ rfl rfl b0 rfl (cdV I.fixA I.fixD ga gd) rfl _ _ (hT9.blk ((D6.out.keep hb7).keep k8) (by have := (D6.out.keep hb7).lt; omega)) zeroC_size (cdV_size _ _ _ _) (cdV_one _ _ _ _) ?_; intro WA hBA hTA))
  have s6 := hk6.out.size
  have s7 := hb7.size
  have y1 := ta.1.lt
  have y2 := td.1.lt
  have y3 := D6.out.lt
  have TA := hT9.blk (ta.1.keep k8) (by omega)
  have TD := hT9.blk (td.1.keep k8) (by omega)
  exact post_cell Tryd.underlying45 rfl size47 Tryd.results16 hBA (cdV_size _ _ _ _) rfl rfl
    ⟨ga, gd, by omega, by omega, ⟨hTA.blk TA (by omega), ta.2⟩, ⟨hTA.blk TD (by omega), td.2⟩, rfl, hTA.below (hT9.below (bq_trans (bq_trans hk6.out hb7) k8) (by omega)) lb0⟩
end Go.Proofs.YtddiccdfeckgaaaDoor
