import Derived.Test.YthlnjipefeglpaaZU7
import Derived.Maps.AppendAt
import Derived.Test.YthlnjipefeglpaaZU21
namespace Go.Proofs.Ythlnjipefeglpaa
open Go.RowKit
set_option linter.unusedVariables false
def OwnC (w : World) (B : Nat) (e : TypeId) (k : Nat) (v : Value) (css : List (List Value)) : Prop := w.ownsRow B e k v css.length css.flatten ∧ ∀ c ∈ css, c.length = k
theorem ownC_nil (w : World) (B : Nat) (e : TypeId) (k : Nat) : OwnC w B e k (.slice none 0 0) [] := ⟨World.ownsRow_nil w B e k, fun c hc => by simp at hc⟩
section
variable {w w' : World} {B p q : Nat} {e : TypeId} {k : Nat} {v : Value} {css : List (List Value)}
theorem OwnC.lt (h : OwnC w B e k v css) {g : Nat} (hg : v.ownBlock = some g) : B ≤ g ∧ g < w.heap.size := World.ownsRow.lt h.1 g hg
theorem OwnC.same (h : OwnC w B e k v css) (hs : ∀ g, v.ownBlock = some g → w'.heap[g]? = w.heap[g]?) : OwnC w' B e k v css := by
  refine ⟨⟨h.1.1, ?_⟩, h.2⟩
  rcases h.1.2 with hn | ⟨g, cap, cur, rfl, hb, hgg, rest⟩
  · exact .inl hn
  · exact .inr ⟨g, cap, cur, rfl, hb, by rw [hs g rfl]; exact hgg, rest⟩
theorem OwnC.keep (h : OwnC w B e k v css) (hb : Below w.heap.size w w') : OwnC w' B e k v css := h.same fun g hg => hb.block g (h.lt hg).2
theorem OwnC.weaken {B' : Nat} (h : OwnC w B e k v css) (hB : B' ≤ B) : OwnC w B' e k v css := by
  refine ⟨⟨h.1.1, ?_⟩, h.2⟩
  rcases h.1.2 with hn | ⟨g, cap, cur, rfl, hb, rest⟩
  · exact .inl hn
  · exact .inr ⟨g, cap, cur, rfl, by omega, rest⟩
end
theorem flat_at (k : Nat) : ∀ (css : List (List Value)) (h : ∀ c ∈ css, c.length = k) (i : Nat) (hi : i < css.length) (j : Nat) (hj : j < k), css.flatten[i * k + j]? = css[i][j]?
  | [], _, i, hi, _, _ => absurd hi (by simp)
  | c :: css, h, 0, hi, j, hj => by
    have hc : c.length = k := h c (by simp)
    rw [List.flatten_cons, List.getElem?_append_left (by omega)]
    simp
  | c :: css, h, i + 1, hi, j, hj => by
    have hc : c.length = k := h c (by simp)
    have e : (i + 1) * k = i * k + k := Nat.succ_mul i k
    rw [List.flatten_cons, List.getElem?_append_right (by omega)]
    have e2 : (i + 1) * k + j - c.length = i * k + j := by omega
    rw [e2, flat_at k css (fun x hx => h x (by simp [hx])) i (by simpa using hi) j hj]
    simp
theorem OwnC.sl {α : Type} {R : World → List Value → α → Prop} {w : World} {B : Nat} {e : TypeId} {k : Nat} {v : Value} {css : List (List Value)} {xs : List α} (h : OwnC w B e k v css) (hl : css.length = xs.length)
    (hR : ∀ i (h1 : i < css.length) (h2 : i < xs.length), R w css[i] xs[i]) : Sl w k R v xs := by
  rcases h.1.2 with ⟨rfl, h0⟩ | ⟨g, cap, cur, rfl, hB, hg, hn, hm, hs, ht⟩
  · have : xs = [] := List.eq_nil_of_length_eq_zero (by omega)
    subst this
    exact sl_nil w k R
  · refine ⟨some ⟨g, 0, none⟩, cap, g, 0, by rw [hl], by rw [← hl]; unfold maxLen at hm; omega, Or.inr ⟨rfl, (Array.getElem?_eq_some_iff.1 hg).1⟩, fun i hi => ?_⟩
    have hi' : i < css.length := by omega
    have hc : css[i].length = k := h.2 _ (List.getElem_mem hi')
    refine ⟨css[i], hc, hR i hi' hi, fun j u hj => ?_⟩
    have hjk : j < k := by rw [← hc]; exact (List.getElem?_eq_some_iff.1 hj).1
    rw [cell_of_row w g _ cur e (0, 0) hg]
    have e1 := flat_at k css h.2 i hi' j hjk
    rw [hj, ← ht] at e1
    have hlt : i * k + j < css.length * k := by
      have : (i + 1) * k ≤ css.length * k := Nat.mul_le_mul_right k (by omega)
      rw [Nat.succ_mul] at this
      omega
    rw [List.getElem?_take_of_lt hlt, Array.getElem?_toList] at e1
    simpa using e1
section
variable {ops : Array Oper} {rest : List Oper} {o : Oper} {a : Act} {w : World} {Q : Exit → Act → World → Prop}
theorem wl_appC (t e : TypeId) (k : Nat) (z : Value) (ht : Try.prog.underlying t = some (.slice e)) (hi : (Try.prog.info? e).map (fun i => (i.zero, i.size, decide (i.bytes ≤ 1000))) = some (some z, k, true)) (hz : z.cells.size = k) (hk : 0 < k)
    (s x : Operand) (ho : o.op = .call { callee := .builtin .append, args := #[s, x], argTypes := #[t, t] }) (hgd : o.guard = none)
    (B : Nat) (v : Value) (hs : a.eval s = v) (css : List (List Value)) (hown : OwnC w B e k v css) (g c : Nat) (cs : Array Value) (t' : TypeId) (hx : a.eval x = .slice (some ⟨g, 0, none⟩) 1 c) (hB : Blk w g cs t') (hc : cs.size = k) (h1 : cs.all (·.oneCell') = true)
    (hn : css.length ≤ 1000000) (hBw : B ≤ w.heap.size)
    (h : ∀ v' w', OwnC w' B e k v' (css ++ [cs.toList]) → Below B w w' → w.grownBy w' v.ownBlock → (v'.ownBlock = v.ownBlock ∨ v'.ownBlock = some w.heap.size) → wpList Try.prog ops Q rest (a.put o.dst v') w') : wpList Try.prog ops Q (o :: rest) a w := by
  obtain ⟨i0, hi, h2⟩ := Option.map_eq_some_iff.1 hi
  have hz0 : i0.zero = some z := congrArg (·.1) h2
  have hz1 : i0.size = k := congrArg (·.2.1) h2
  have hz2 : i0.bytes ≤ 1000 := by simpa using congrArg (·.2.2) h2
  refine wpList_append_own_at w hgd s x t ho B e i0 z k i0.bytes ht hi hz0 hz1 rfl hz hk v css.length css.flatten hs hown.1 ⟨g, 0, none⟩ 1 c cs.toList hx (by rw [Array.length_toList, hc, Nat.one_mul]) ?_ ?_ ?_ ?_ hBw ?_
  · intro j u hj
    rw [Addr.add_mid, Nat.zero_add, hB.cell]
    simpa using hj
  · intro u hu
    exact Array.all_eq_true_iff_forall_mem.1 h1 u (by simpa using hu)
  · unfold maxLen; omega
  · have : (css.length + 1) * i0.bytes ≤ 1000001 * 1000 := Nat.mul_le_mul (by omega) hz2
    omega
  · intro v' w' h3 h4 _ h6
    refine h v' w' ⟨?_, ?_⟩ ⟨h4.os, h4.tape, h4.output, h4.size, fun i hi => h4.block i (by omega) (by
      intro e
      have := (World.ownsRow.lt hown.1 i e.symm).1
      omega)⟩ h4 h6
    · rw [List.length_append, List.flatten_append]
      simpa using h3
    · intro c hc2
      rcases List.mem_append.1 hc2 with hc2 | hc2
      · exact hown.2 c hc2
      · simp only [List.mem_singleton] at hc2
        rw [hc2, Array.length_toList, hc]
end
def OwnP (w : World) (B : Nat) (e : TypeId) (v : Value) (xs : List (List Int)) : Prop := OwnC w B e 5 v (xs.map iL) ∧ ∀ x ∈ xs, x.length = 5 ∧ ∀ z ∈ x, I64 z
theorem ownP_nil (w : World) (B : Nat) (e : TypeId) : OwnP w B e (.slice none 0 0) [] := ⟨ownC_nil w B e 5, fun c hc => by simp at hc⟩
section
variable {w w' : World} {B p q : Nat} {e : TypeId} {v : Value} {xs : List (List Int)}
theorem OwnP.keep (h : OwnP w B e v xs) (hb : Below w.heap.size w w') : OwnP w' B e v xs := ⟨h.1.keep hb, h.2⟩
theorem OwnP.weaken {B' : Nat} (h : OwnP w B e v xs) (hB : B' ≤ B) : OwnP w B' e v xs := ⟨h.1.weaken hB, h.2⟩
theorem OwnP.sl (h : OwnP w B e v xs) : Sl w 5 Num5 v xs := by
  refine h.1.sl (by simp) fun i h1 h2 => ?_
  have := h.2 _ (List.getElem_mem h2)
  exact ⟨this.1, by simp, this.2⟩
theorem OwnP.snoc {x : List Int} (h : OwnP w B e v xs) (hx : x.length = 5) (hb : ∀ z ∈ x, I64 z) {v' : Value} (hc : OwnC w' B e 5 v' (xs.map iL ++ [(iA x).toList])) : OwnP w' B e v' (xs ++ [x]) := by
  refine ⟨?_, fun y hy => ?_⟩
  · rw [List.map_append]
    have : (iA x).toList = iL x := by simp [iA, iL]
    rw [this] at hc
    exact hc
  · rcases List.mem_append.1 hy with hy | hy
    · exact h.2 y hy
    · simp only [List.mem_singleton] at hy
      subst hy
      exact ⟨hx, hb⟩
end
def OwnF (w : World) (B : Nat) (v : Value) (Fs : List FV) : Prop :=
  ∃ svs : List Value, svs.length = Fs.length ∧ OwnC w B 28 14 v (List.zipWith fillC Fs svs) ∧
    ∀ i (h1 : i < Fs.length) (h2 : i < svs.length), Fs[i].Fit ∧ OwnP w B 65 svs[i] Fs[i].st ∧ ∀ g, svs[i].ownBlock = some g → v.ownBlock ≠ some g
theorem ownF_nil (w : World) (B : Nat) : OwnF w B (.slice none 0 0) [] := ⟨[], rfl, ownC_nil w B _ 14, fun i h => absurd h (by simp)⟩
section
variable {w w' : World} {B p q : Nat} {v : Value} {Fs : List FV}
theorem OwnF.row (h : OwnF w B v Fs) : ∃ css, css.length = Fs.length ∧ OwnC w B 28 14 v css := by
  obtain ⟨svs, h1, h2, h3⟩ := h
  exact ⟨_, by simp [h1], h2⟩
theorem OwnF.fills (h : OwnF w B v Fs) : Fills w v Fs := by
  obtain ⟨svs, h1, h2, h3⟩ := h
  refine h2.sl (by simp [h1]) fun i g1 g2 => ?_
  have g3 : i < svs.length := by omega
  rw [List.getElem_zipWith]
  exact ⟨(h3 i g2 g3).1, svs[i], rfl, (h3 i g2 g3).2.1.sl⟩
end
theorem fillC_len8 {F : FV} (h : F.Fit) (sv : Value) : (fillC F sv).length = 14 := by
  simp [fillC, iL_len, h.c, h.m]
theorem fl_info : (Try.prog.info? 28).map (fun i => (i.zero, i.size, decide (i.bytes ≤ 1000))) = some (some (.agg #[.int .i64 0, .int .i64 0, .int .i64 0, .int .i64 0, .int .i64 0, .int .i64 0, .int .i64 0, .int .i64 0, .int .i64 0, .int .i64 0, .int .i64 0, .int .i64 0, .slice none 0 0, .int .i64 0]), 14, true) := by kernel_rfl
theorem sp_info : (Try.prog.info? 65).map (fun i => (i.zero, i.size, decide (i.bytes ≤ 1000))) = some (some (.agg #[.int .i64 0, .int .i64 0, .int .i64 0, .int .i64 0, .int .i64 0]), 5, true) := by kernel_rfl
theorem sk_info : (Try.prog.info? 30).map (fun i => (i.zero, i.size, decide (i.bytes ≤ 1000))) = some (some (.agg #[.int .i64 0, .int .i64 0, .int .i64 0, .int .i64 0, .int .i64 0]), 5, true) := by kernel_rfl
theorem stop1_run (a b c d e : Int) (w : World) : (Instr.buildSlice 26 1 [(0, .agg #[.int .i64 a, .int .i64 b, .int .i64 c, .int .i64 d, .int .i64 e])].toArray).run Try.prog w = .ok (.slice (some ⟨w.heap.size, 0, none⟩) 1 1) (w.alloc (.cells #[.int .i64 a, .int .i64 b, .int .i64 c, .int .i64 d, .int .i64 e] 65)) := by
  obtain ⟨ie, h1, h2⟩ := Option.map_eq_some_iff.1 sp_info
  have hz := congrArg (·.1) h2
  have hs : ie.size = 5 := congrArg (·.2.1) h2
  refine run_buildSlice w 26 65 1 _ _ ie _ Try.underlying26 h1 hz (by rw [hs]; decide) (by rw [hs]; decide) ?_
  rw [hs]; kernel_rfl
theorem line1_run (a b c d e : Int) (w : World) : (Instr.buildSlice 37 1 [(0, .agg #[.int .i64 a, .int .i64 b, .int .i64 c, .int .i64 d, .int .i64 e])].toArray).run Try.prog w = .ok (.slice (some ⟨w.heap.size, 0, none⟩) 1 1) (w.alloc (.cells #[.int .i64 a, .int .i64 b, .int .i64 c, .int .i64 d, .int .i64 e] 30)) := by
  obtain ⟨ie, h1, h2⟩ := Option.map_eq_some_iff.1 sk_info
  have hz := congrArg (·.1) h2
  have hs : ie.size = 5 := congrArg (·.2.1) h2
  refine run_buildSlice w 37 30 1 _ _ ie _ Try.underlying37 h1 hz (by rw [hs]; decide) (by rw [hs]; decide) ?_
  rw [hs]; kernel_rfl
theorem fill1_run (k c0 c1 c2 c3 m0 m1 m2 m3 m4 m5 sp id : Int) (a : Option Addr) (n m : Nat) (w : World) : (Instr.buildSlice 36 1 [(0, .agg #[.int .i64 k, .int .i64 c0, .int .i64 c1, .int .i64 c2, .int .i64 c3, .int .i64 m0, .int .i64 m1, .int .i64 m2, .int .i64 m3, .int .i64 m4, .int .i64 m5, .int .i64 sp, .slice a n m, .int .i64 id])].toArray).run Try.prog w = .ok (.slice (some ⟨w.heap.size, 0, none⟩) 1 1) (w.alloc (.cells #[.int .i64 k, .int .i64 c0, .int .i64 c1, .int .i64 c2, .int .i64 c3, .int .i64 m0, .int .i64 m1, .int .i64 m2, .int .i64 m3, .int .i64 m4, .int .i64 m5, .int .i64 sp, .slice a n m, .int .i64 id] 28)) := by
  obtain ⟨ie, h1, h2⟩ := Option.map_eq_some_iff.1 fl_info
  have hz := congrArg (·.1) h2
  have hs : ie.size = 14 := congrArg (·.2.1) h2
  refine run_buildSlice w 36 28 1 _ _ ie _ Try.underlying36 h1 hz (by rw [hs]; decide) (by rw [hs]; decide) ?_
  rw [hs]; kernel_rfl
end Go.Proofs.Ythlnjipefeglpaa
namespace Go.Proofs.Ythlnjipefeglpaa
open Go.RowKit
set_option linter.unusedVariables false
def RS.dem (x : RS) (c : Bool) (e : Int) : RS := if x.e = 0 ∧ c = true then ⟨x.s, x.a, e⟩ else x
theorem RS.dem_s (x : RS) (c : Bool) (e : Int) : (x.dem c e).s = x.s := by unfold RS.dem; split <;> rfl
theorem RS.dem_no (x : RS) (e : Int) : x.dem false e = x := if_neg (by simp)
theorem RS.dem_err {x : RS} (h : x.e ≠ 0) (c : Bool) (e : Int) : x.dem c e = x := if_neg (by simp [h])
theorem RS.dem_yes {x : RS} (h : x.e = 0) (e : Int) : x.dem true e = ⟨x.s, x.a, e⟩ := if_pos ⟨h, rfl⟩
theorem RS.dem_size (x : RS) (c : Bool) (e : Int) {m : Nat} (h : x.s.size ≤ m) : (x.dem c e).s.size ≤ m := by rw [RS.dem_s]; exact h
theorem by_len (s : ByteArray) (a n : Int) : (byB s a n).size ≤ n.toNat := by
  unfold byB
  split
  · rw [ByteArray.size_extract]; omega
  · exact Nat.zero_le _
theorem byS_size (s : ByteArray) (a n : Int) {m : Nat} (h : s.size ≤ m) : (byS s a n).size ≤ m := by
  unfold byS
  split
  · exact h
  · exact Nat.zero_le _
theorem li_bd (x : RS) (n : Int) (h : 0 ≤ n) : 0 ≤ x.li n ∧ x.li n < B.P2 (8 * n.toNat) := by
  unfold RS.li
  split
  · unfold liV
    have h1 := B.lv_lt (byB x.s x.a n).data.toList
    have h2 : (byB x.s x.a n).data.toList.length ≤ n.toNat := by
      rw [Array.length_toList]
      exact by_len _ _ _
    have h3 : B.P2 (8 * (byB x.s x.a n).data.toList.length) ≤ B.P2 (8 * n.toNat) := B.P2_le (by omega)
    omega
  · have := B.P2_pos (8 * n.toNat)
    omega
theorem li1_bd (x : RS) : 0 ≤ x.li 1 ∧ x.li 1 ≤ 255 := by
  have h := li_bd x 1 (by decide)
  have : B.P2 (8 * (1 : Int).toNat) = 256 := by decide
  omega
theorem li2_bd (x : RS) : 0 ≤ x.li 2 ∧ x.li 2 ≤ 65535 := by
  have h := li_bd x 2 (by decide)
  have : B.P2 (8 * (2 : Int).toNat) = 65536 := by decide
  omega
theorem cv_len (x : RS) : x.cv.length = 4 := by
  unfold RS.cv
  split
  · exact rgV_len8 _ _
  · rfl
theorem mv_len (x : RS) : x.mv.length = 6 := by
  unfold RS.mv
  split
  · exact matV_len _
  · rfl
theorem cv_ok (x : RS) : rgbaL x.cv = true := by
  have hl := cv_len x
  have hb : ∀ v ∈ x.cv, 0 ≤ v ∧ v ≤ 255 := by
    unfold RS.cv rgV
    split
    · split
      · intro v hv
        rw [List.mem_map] at hv
        obtain ⟨c, _, rfl⟩ := hv
        have := c.toNat_lt
        omega
      · intro v hv
        simp at hv
        omega
    · intro v hv
      simp at hv
      omega
  obtain ⟨r, g, b, a, h⟩ := list4 _ hl
  rw [h] at hb ⊢
  show rgbaOk r g b a = true
  rw [rgba_all]
  unfold byAll byI
  simp only [List.all_eq_true, Bool.and_eq_true, decide_eq_true_eq]
  exact hb
theorem rgbaL_bd {l : List Int} (h : rgbaL l = true) : ∀ v ∈ l, 0 ≤ v ∧ v ≤ 255 := by
  unfold rgbaL at h
  split at h
  · rw [rgba_all] at h
    unfold byAll byI at h
    simpa only [List.all_eq_true, Bool.and_eq_true, decide_eq_true_eq] using h
  · cases h
theorem cv_bd (x : RS) : ∀ v ∈ x.cv, I64 v := fun v hv => by
  have := rgbaL_bd (cv_ok x) v hv
  unfold I64; omega
theorem matOkL_bd {l : List Int} (h : matOkL l = true) : ∀ v ∈ l, I64 v := by
  unfold matOkL at h
  split at h
  · unfold matOk at h
    simp only [Bool.and_eq_true, List.all_eq_true] at h
    intro v hv
    have : nr 4194304 v = true ∨ nr 1048576 v = true := by
      simp only [List.mem_cons, List.not_mem_nil, or_false] at hv
      rcases hv with rfl | rfl | rfl | rfl | rfl | rfl
      · exact Or.inl (h.1 _ (by simp))
      · exact Or.inl (h.1 _ (by simp))
      · exact Or.inl (h.1 _ (by simp))
      · exact Or.inl (h.1 _ (by simp))
      · exact Or.inr (h.2 _ (by simp))
      · exact Or.inr (h.2 _ (by simp))
    unfold nr at this
    simp only [Bool.and_eq_true, decide_eq_true_eq] at this
    unfold I64
    omega
  · cases h
theorem fin_ok {x : RS} {b : Bool} (h : (x.fin b).e = 0) : b = true := by
  unfold RS.fin at h
  split at h
  · split at h
    · assumption
    · cases h
  · rename_i h2; exact absurd h h2
theorem matV_bd (x : RS) : ∀ v ∈ matV x, I64 v := by
  unfold matV
  split
  · rename_i h
    exact matOkL_bd (fin_ok h)
  · intro v hv
    simp at hv
    unfold I64; omega
theorem mv_bd (x : RS) : ∀ v ∈ x.mv, I64 v := by
  unfold RS.mv
  split
  · exact matV_bd _
  · intro v hv
    simp at hv
    unfold I64; omega
theorem cvS_size (x : RS) {m : Nat} (h : x.s.size ≤ m) : x.cvS.s.size ≤ m := by
  unfold RS.cvS
  split
  · exact byS_size _ _ _ h
  · exact h
theorem fin_size (x : RS) (b : Bool) {m : Nat} (h : x.s.size ≤ m) : (x.fin b).s.size ≤ m := by
  unfold RS.fin
  split
  · split
    · exact h
    · exact Nat.zero_le _
  · exact Nat.zero_le _
theorem mvS_size (x : RS) {m : Nat} (h : x.s.size ≤ m) : x.mvS.s.size ≤ m := by
  unfold RS.mvS
  split
  · unfold matS
    exact fin_size _ _ (sevS_size _ _ _ (mx2_size _ (mx2_size _ h)))
  · exact h
def stopX (L : List (List Int)) (x : RS) : RS := (x.liS 1).dem (decide (x.li 1 < lastR 0 L)) 3
def stopStep (st : List (List Int) × RS) : List (List Int) × RS := if st.2.e = 0 then (st.1 ++ [st.2.li 1 :: (stopX st.1 st.2).cv], (stopX st.1 st.2).cvS) else st
def stopsT (x : RS) : Nat → List (List Int) × RS
  | 0 => ([], x)
  | k + 1 => stopStep (stopsT x k)
def grBad (n : Int) : Bool := decide (n / 64 > 2) || decide (n / 16 % 4 > 0) || decide (n % 16 = 0) || decide (n % 16 > 8)
def grX (y : RS) : RS := (y.mvS.liS 1).dem (grBad (y.mvS.li 1)) 3
def fillT (x : RS) : FV × RS :=
  if x.li 1 = 0 then (⟨0, (x.liS 1).cv, [0, 0, 0, 0, 0, 0], 0, [], 0⟩, (x.liS 1).cvS)
  else if x.li 1 = 64 ∨ x.li 1 = 65 then (⟨x.li 1, [0, 0, 0, 0], ((x.liS 1).liS 2).mv, 0, [], (x.liS 1).li 2⟩, ((x.liS 1).liS 2).mvS)
  else if x.li 1 = 16 ∨ x.li 1 = 18 then (⟨x.li 1, [0, 0, 0, 0], (x.liS 1).mv, (x.liS 1).mvS.li 1 / 64, (stopsT (grX (x.liS 1)) ((x.liS 1).mvS.li 1 % 16).toNat).1, 0⟩, (stopsT (grX (x.liS 1)) ((x.liS 1).mvS.li 1 % 16).toNat).2)
  else (⟨x.li 1, [0, 0, 0, 0], [0, 0, 0, 0, 0, 0], 0, [], 0⟩, (x.liS 1).dem true 3)
def fillStep (st : List FV × RS) : List FV × RS := if st.2.e = 0 then (st.1 ++ [(fillT st.2).1], (fillT st.2).2) else st
def fillsT (x : RS) : Nat → List FV × RS
  | 0 => ([], x)
  | k + 1 => fillStep (fillsT x k)
def lineStep (st : List (List Int) × RS) : List (List Int) × RS := if st.2.e = 0 then (st.1 ++ [st.2.li 2 :: (st.2.liS 2).cv], (st.2.liS 2).cvS) else st
def linesT (x : RS) : Nat → List (List Int) × RS
  | 0 => ([], x)
  | k + 1 => lineStep (linesT x k)
def cntX (x : RS) : RS := (x.liS 1).dem (decide (15 < x.li 1)) 7
def fillsX (x : RS) : List FV × RS := fillsT (cntX x) (x.li 1).toNat
def linesX (x : RS) : List (List Int) × RS := linesT (cntX x) (x.li 1).toNat
def takeE (x : RS) : RS := (linesX (fillsX x).2).2
def takeF (x : RS) : List FV := if (takeE x).e = 0 then (fillsX x).1 else []
def takeL (x : RS) : List (List Int) := if (takeE x).e = 0 then (linesX (fillsX x).2).1 else []
def takeX (x : RS) : RS := if (takeE x).e = 0 then takeE x else ⟨⟨#[]⟩, 0, (takeE x).e⟩
section
variable {x : RS} {m : Nat}
theorem stopX_size (L : List (List Int)) (h : x.s.size ≤ m) : (stopX L x).s.size ≤ m := RS.dem_size _ _ _ (RS.liS_size _ _ h)
theorem stops_size (h : x.s.size ≤ m) : ∀ k, (stopsT x k).2.s.size ≤ m
  | 0 => h
  | k + 1 => by
    show (stopStep (stopsT x k)).2.s.size ≤ m
    unfold stopStep
    split
    · exact cvS_size _ (stopX_size _ (stops_size h k))
    · exact stops_size h k
theorem grX_size (h : x.s.size ≤ m) : (grX x).s.size ≤ m := RS.dem_size _ _ _ (RS.liS_size _ _ (mvS_size _ h))
theorem fillT_size (h : x.s.size ≤ m) : (fillT x).2.s.size ≤ m := by
  unfold fillT
  split
  · exact cvS_size _ (RS.liS_size _ _ h)
  · split
    · exact mvS_size _ (RS.liS_size _ _ (RS.liS_size _ _ h))
    · split
      · exact stops_size (grX_size (RS.liS_size _ _ h)) _
      · exact RS.dem_size _ _ _ (RS.liS_size _ _ h)
theorem fillsT_size (h : x.s.size ≤ m) : ∀ k, (fillsT x k).2.s.size ≤ m
  | 0 => h
  | k + 1 => by
    show (fillStep (fillsT x k)).2.s.size ≤ m
    unfold fillStep
    split
    · exact fillT_size (fillsT_size h k)
    · exact fillsT_size h k
theorem linesT_size (h : x.s.size ≤ m) : ∀ k, (linesT x k).2.s.size ≤ m
  | 0 => h
  | k + 1 => by
    show (lineStep (linesT x k)).2.s.size ≤ m
    unfold lineStep
    split
    · exact cvS_size _ (RS.liS_size _ _ (linesT_size h k))
    · exact linesT_size h k
theorem cntX_size (h : x.s.size ≤ m) : (cntX x).s.size ≤ m := RS.dem_size _ _ _ (RS.liS_size _ _ h)
theorem fillsX_size (h : x.s.size ≤ m) : (fillsX x).2.s.size ≤ m := fillsT_size (cntX_size h) _
theorem five_snoc {l : List (List Int)} {v : Int} {c : List Int} (h : ∀ x ∈ l, x.length = 5 ∧ ∀ z ∈ x, I64 z) (hv : I64 v) (hc : c.length = 4) (hb : ∀ z ∈ c, I64 z) : ∀ x ∈ l ++ [v :: c], x.length = 5 ∧ ∀ z ∈ x, I64 z := by
  intro x hx
  rcases List.mem_append.1 hx with hx | hx
  · exact h x hx
  · simp only [List.mem_singleton] at hx
    subst hx
    refine ⟨by simp [hc], fun z hz => ?_⟩
    rcases List.mem_cons.1 hz with rfl | hz
    · exact hv
    · exact hb z hz
theorem li_i64 (x : RS) (n : Int) (h : n = 1 ∨ n = 2) : I64 (x.li n) := by
  rcases h with rfl | rfl
  · have := li1_bd x; unfold I64; omega
  · have := li2_bd x; unfold I64; omega
theorem stops_five (x : RS) : ∀ k, ∀ z ∈ (stopsT x k).1, z.length = 5 ∧ ∀ v ∈ z, I64 v
  | 0 => fun z hz => by simp [stopsT] at hz
  | k + 1 => by
    show ∀ z ∈ (stopStep (stopsT x k)).1, _
    unfold stopStep
    split
    · exact five_snoc (stops_five x k) (li_i64 _ 1 (Or.inl rfl)) (cv_len _) (cv_bd _)
    · exact stops_five x k
theorem lines_five (x : RS) : ∀ k, ∀ z ∈ (linesT x k).1, z.length = 5 ∧ ∀ v ∈ z, I64 v
  | 0 => fun z hz => by simp [linesT] at hz
  | k + 1 => by
    show ∀ z ∈ (lineStep (linesT x k)).1, _
    unfold lineStep
    split
    · exact five_snoc (lines_five x k) (li_i64 _ 2 (Or.inr rfl)) (cv_len _) (cv_bd _)
    · exact lines_five x k
theorem i64_z4 : ∀ v ∈ ([0, 0, 0, 0] : List Int), I64 v := by
  intro v hv
  simp at hv
  subst hv
  unfold I64; omega
theorem i64_z6 : ∀ v ∈ ([0, 0, 0, 0, 0, 0] : List Int), I64 v := by
  intro v hv
  simp at hv
  subst hv
  unfold I64; omega
theorem fillT_fit (x : RS) : (fillT x).1.Fit := by
  have z4 := i64_z4
  have z6 := i64_z6
  have i0 : I64 0 := by unfold I64; omega
  have k1 := li_i64 x 1 (Or.inl rfl)
  unfold fillT
  split
  · exact ⟨i0, cv_len _, rfl, i0, i0, cv_bd _, z6⟩
  · split
    · exact ⟨k1, rfl, mv_len _, i0, li_i64 _ 2 (Or.inr rfl), z4, mv_bd _⟩
    · split
      · refine ⟨k1, rfl, mv_len _, ?_, i0, z4, mv_bd _⟩
        show I64 (_ / 64)
        have := li1_bd (x.liS 1).mvS
        unfold I64
        omega
      · exact ⟨k1, rfl, rfl, i0, i0, z4, z6⟩
theorem stops_stuck {k : Nat} (h : (stopsT x k).2.e ≠ 0) : ∀ j, stopsT x (k + j) = stopsT x k
  | 0 => rfl
  | j + 1 => by
    show stopStep (stopsT x (k + j)) = _
    rw [stops_stuck h j]
    exact if_neg h
theorem fills_stuck {k : Nat} (h : (fillsT x k).2.e ≠ 0) : ∀ j, fillsT x (k + j) = fillsT x k
  | 0 => rfl
  | j + 1 => by
    show fillStep (fillsT x (k + j)) = _
    rw [fills_stuck h j]
    exact if_neg h
theorem lines_stuck {k : Nat} (h : (linesT x k).2.e ≠ 0) : ∀ j, linesT x (k + j) = linesT x k
  | 0 => rfl
  | j + 1 => by
    show lineStep (linesT x (k + j)) = _
    rw [lines_stuck h j]
    exact if_neg h
end
end Go.Proofs.Ythlnjipefeglpaa
