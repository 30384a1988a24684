import Derived.Test.YtgopaajmbifbaaaZK3
import Derived.Maps.AppendAt
import Derived.Laws.MakeOwn
import Derived.Test.YtgopaajmbifbaaaZK1
namespace Go.Proofs.Ytgopaajmbifbaaa
open Go.RowKit
set_option linter.unusedVariables false
def OwnC (w : World) (B : Nat) (e : TypeId) (k : Nat) (v : Value) (css : List (List Value)) : Prop := w.ownsRow B e k v css.length css.flatten ∧ ∀ c ∈ css, c.length = k
theorem ownC_nil (w : World) (B : Nat) (e : TypeId) (k : Nat) : OwnC w B e k (.slice none 0 0) [] := ⟨World.ownsRow_nil w B e k, fun c hc => by simp at hc⟩
section
variable {w w' : World} {B p q : Nat} {e : TypeId} {k : Nat} {v : Value} {css : List (List Value)}
theorem OwnC.lt (h : OwnC w B e k v css) {g : Nat} (hg : v.ownBlock = some g) : B ≤ g ∧ g < w.heap.size := World.ownsRow.lt h.1 g hg
theorem OwnC.same (h : OwnC w B e k v css) (hs : ∀ g, v.ownBlock = some g → w'.heap[g]? = w.heap[g]?) : OwnC w' B e k v css := by
  refine ⟨⟨h.1.1, ?_⟩, h.2⟩
  rcases h.1.2 with hn | ⟨g, cap, cur, rfl, hb, hgg, rest⟩
  · exact .inl hn
  · exact .inr ⟨g, cap, cur, rfl, hb, by rw [hs g rfl]; exact hgg, rest⟩
theorem OwnC.keep (h : OwnC w B e k v css) (hb : Below w.heap.size w w') : OwnC w' B e k v css := h.same fun g hg => hb.block g (h.lt hg).2
end
theorem flat_at (k : Nat) : ∀ (css : List (List Value)) (h : ∀ c ∈ css, c.length = k) (i : Nat) (hi : i < css.length) (j : Nat) (hj : j < k), css.flatten[i * k + j]? = css[i][j]?
  | [], _, i, hi, _, _ => absurd hi (by simp)
  | c :: css, h, 0, hi, j, hj => by
    have hc : c.length = k := h c (by simp)
    rw [List.flatten_cons, List.getElem?_append_left (by omega)]
    simp
  | c :: css, h, i + 1, hi, j, hj => by
    have hc : c.length = k := h c (by simp)
    have e : (i + 1) * k = i * k + k := Nat.succ_mul i k
    rw [List.flatten_cons, List.getElem?_append_right (by omega)]
    have e2 : (i + 1) * k + j - c.length = i * k + j := by omega
    rw [e2, flat_at k css (fun x hx => h x (by simp [hx])) i (by simpa using hi) j hj]
    simp
theorem OwnC.sl {α : Type} {R : World → List Value → α → Prop} {w : World} {B : Nat} {e : TypeId} {k : Nat} {v : Value} {css : List (List Value)} {xs : List α} (h : OwnC w B e k v css) (hl : css.length = xs.length)
    (hR : ∀ i (h1 : i < css.length) (h2 : i < xs.length), R w css[i] xs[i]) : Sl w k R v xs := by
  rcases h.1.2 with ⟨rfl, h0⟩ | ⟨g, cap, cur, rfl, hB, hg, hn, hm, hs, ht⟩
  · have : xs = [] := List.eq_nil_of_length_eq_zero (by omega)
    subst this
    exact sl_nil w k R
  · refine ⟨some ⟨g, 0, none⟩, cap, g, 0, by rw [hl], by rw [← hl]; unfold maxLen at hm; omega, Or.inr ⟨rfl, (Array.getElem?_eq_some_iff.1 hg).1⟩, fun i hi => ?_⟩
    have hi' : i < css.length := by omega
    have hc : css[i].length = k := h.2 _ (List.getElem_mem hi')
    refine ⟨css[i], hc, hR i hi' hi, fun j u hj => ?_⟩
    have hjk : j < k := by rw [← hc]; exact (List.getElem?_eq_some_iff.1 hj).1
    rw [cell_of_row w g _ cur e (0, 0) hg]
    have e1 := flat_at k css h.2 i hi' j hjk
    rw [hj, ← ht] at e1
    have hlt : i * k + j < css.length * k := by
      have : (i + 1) * k ≤ css.length * k := Nat.mul_le_mul_right k (by omega)
      rw [Nat.succ_mul] at this
      omega
    rw [List.getElem?_take_of_lt hlt, Array.getElem?_toList] at e1
    simpa using e1
section
variable {ops : Array Oper} {rest : List Oper} {o : Oper} {a : Act} {w : World} {Q : Exit → Act → World → Prop}
theorem wl_appC (t e : TypeId) (k : Nat) (z : Value) (ht : Try.prog.underlying t = some (.slice e)) (hi : (Try.prog.info? e).map (fun i => (i.zero, i.size, decide (i.bytes ≤ 1000))) = some (some z, k, true)) (hz : z.cells.size = k) (hk : 0 < k)
    (s x : Operand) (ho : o.op = .call { callee := .builtin .append, args := #[s, x], argTypes := #[t, t] }) (hgd : o.guard = none)
    (B : Nat) (v : Value) (hs : a.eval s = v) (css : List (List Value)) (hown : OwnC w B e k v css) (g c : Nat) (cs : Array Value) (t' : TypeId) (hx : a.eval x = .slice (some ⟨g, 0, none⟩) 1 c) (hB : Blk w g cs t') (hc : cs.size = k) (h1 : cs.all (·.oneCell') = true)
    (hn : css.length ≤ 1000000) (hBw : B ≤ w.heap.size)
    (h : ∀ v' w', OwnC w' B e k v' (css ++ [cs.toList]) → Below B w w' → w.grownBy w' v.ownBlock → (v'.ownBlock = v.ownBlock ∨ v'.ownBlock = some w.heap.size) → wpList Try.prog ops Q rest (a.put o.dst v') w') : wpList Try.prog ops Q (o :: rest) a w := by
  obtain ⟨i0, hi, h2⟩ := Option.map_eq_some_iff.1 hi
  have hz0 : i0.zero = some z := congrArg (·.1) h2
  have hz1 : i0.size = k := congrArg (·.2.1) h2
  have hz2 : i0.bytes ≤ 1000 := by simpa using congrArg (·.2.2) h2
  refine wpList_append_own_at w hgd s x t ho B e i0 z k i0.bytes ht hi hz0 hz1 rfl hz hk v css.length css.flatten hs hown.1 ⟨g, 0, none⟩ 1 c cs.toList hx (by rw [Array.length_toList, hc, Nat.one_mul]) ?_ ?_ ?_ ?_ hBw ?_
  · intro j u hj
    rw [Addr.add_mid, Nat.zero_add, hB.cell]
    simpa using hj
  · intro u hu
    exact Array.all_eq_true_iff_forall_mem.1 h1 u (by simpa using hu)
  · unfold maxLen; omega
  · have : (css.length + 1) * i0.bytes ≤ 1000001 * 1000 := Nat.mul_le_mul (by omega) hz2
    omega
  · intro v' w' h3 h4 _ h6
    refine h v' w' ⟨?_, ?_⟩ ⟨h4.os, h4.tape, h4.output, h4.size, fun i hi => h4.block i (by omega) (by
      intro e
      have := (World.ownsRow.lt hown.1 i e.symm).1
      omega)⟩ h4 h6
    · rw [List.length_append, List.flatten_append]
      simpa using h3
    · intro c hc2
      rcases List.mem_append.1 hc2 with hc2 | hc2
      · exact hown.2 c hc2
      · simp only [List.mem_singleton] at hc2
        rw [hc2, Array.length_toList, hc]
end
theorem OwnC.gone {w w' : World} {B q : Nat} {e : TypeId} {k : Nat} {v : Value} {css : List (List Value)} (h : OwnC w B e k v css) (hb : But q q w w') (hq : ∀ g, v.ownBlock = some g → g ≠ q) : OwnC w' B e k v css :=
  h.same fun g hg => hb.block g (h.lt hg).2 (hq g hg) (hq g hg)
theorem Turned.gone {w w' : World} {q : Nat} (h : Turned q w w') : But q q w w' := ⟨h.os, h.tape, h.output, Nat.le_of_eq h.size.symm, fun k _ h1 _ => h.block k h1⟩
structure SzM (w : World) (B M : Nat) : Prop where
  le : M ≤ w.heap.size
theorem SzM.keep {w w' : World} {B M : Nat} (h : SzM w B M) (hb : Below w.heap.size w w') : SzM w' B M := ⟨Nat.le_trans h.le hb.size⟩
theorem SzM.turned {w w' : World} {B M q : Nat} (h : SzM w B M) (hb : Turned q w w') (_ : q < B ∨ M ≤ q) : SzM w' B M := ⟨by rw [hb.size]; exact h.le⟩
def OwnCm (w : World) (B M : Nat) (e : TypeId) (k : Nat) (v : Value) (css : List (List Value)) : Prop := OwnC w B e k v css ∧ ∀ g, v.ownBlock = some g → g < M
section
variable {w w' : World} {B M q : Nat} {e : TypeId} {k : Nat} {v : Value} {css : List (List Value)}
theorem OwnC.m (h : OwnC w B e k v css) : OwnCm w B w.heap.size e k v css := ⟨h, fun g hg => (h.lt hg).2⟩
theorem OwnCm.keep (h : OwnCm w B M e k v css) (hb : Below w.heap.size w w') : OwnCm w' B M e k v css := ⟨h.1.keep hb, h.2⟩
theorem OwnCm.but (h : OwnCm w B M e k v css) (hb : But q q w w') (hq : q < B ∨ M ≤ q) : OwnCm w' B M e k v css :=
  ⟨h.1.gone hb fun g hg => by have := (h.1.lt hg).1; have := h.2 g hg; omega, h.2⟩
theorem OwnCm.turned (h : OwnCm w B M e k v css) (hb : Turned q w w') (hq : q < B ∨ M ≤ q) : OwnCm w' B M e k v css := h.but hb.gone hq
end
section
variable {ops : Array Oper} {rest : List Oper} {o : Oper} {a : Act} {w : World} {Q : Exit → Act → World → Prop}
end
end Go.Proofs.Ytgopaajmbifbaaa
namespace Go.Proofs.Ytgopaajmbifbaaa
open Go.RowKit
set_option linter.unusedVariables false
set_option linter.unusedSimpArgs false
set_option maxRecDepth 100000
theorem szSg : (Try.prog.info? 27).map (·.size) = some 6 := by kernel_rfl
theorem szRs : (Try.prog.info? 30).map (·.size) = some 6 := by kernel_rfl
theorem zeSg (w : World) : (zeroValue 27).run Try.prog w = .ok (.agg #[.int .i64 0, .int .i64 0, .int .i64 0, .int .i64 0, .int .i64 0, .int .i64 0]) w := Try.zeroValue27 w
theorem tmod2 (x : Int) : x.tmod 2 = 0 ↔ x % 2 = 0 := by
  rcases (show 0 ≤ x ∨ x < 0 by omega) with h | h
  · rw [Int.tmod_eq_emod_of_nonneg h]
  · have h2 := Int.neg_tmod (-x) 2
    rw [Int.neg_neg, Int.tmod_eq_emod_of_nonneg (show 0 ≤ -x by omega)] at h2
    omega
section
variable {P : Program} {ops : Array Oper} {rest : List Oper} {o : Oper} {a : Act} {w : World} {Q : Exit → Act → World → Prop}
theorem wlg_mid17 (ty : TypeId) (d : TypeDesc) (hu : P.underlying ty = some d) (hd : d.isRow = true) (x : Operand) (ho : o.op = .load ty x) (hw : Region.wanted o (yielded ops a.tmps) = true) (b k : Nat) (hx : a.eval x = .pointer (some ⟨b, k, none⟩)) (u v : Value) (hi : (P.info? ty).map (·.size) = some 2)
    (cs : Array Value) (t : TypeId) (hB : Blk w b cs t) (h0 : cs[k]? = some u) (h1 : cs[k + 1]? = some v) (h : wpList P ops Q rest (a.put o.dst (.agg #[u, v])) w) : wpList P ops Q (o :: rest) a w := by
  refine wpList_step fun K hK => ?_
  rw [if_pos hw]
  exact wp_load_mid ty x ho b k hx [u, v] d (fun j z hv => by
    rw [hB.cell]
    match j, hv with
    | 0, hv => exact h0.trans hv
    | 1, hv => exact h1.trans hv) hu hd hi (hK _ _ h)
end
set_option maxHeartbeats 1000000 in
theorem sty_core (x : Int) (q : Bool) (w : World) (hq : x < 0 ∧ q = false ∨ 0 ≤ x ∧ 255 < x ∧ q = false ∨ 0 ≤ x ∧ x ≤ 255 ∧ q = true) :
    Calls Try.prog 24 #[.int .i64 x] w fun e w' => e = .returned (.bool q) ∧ w = w' := by
  rcases hq with ⟨h1, rfl⟩ | ⟨h1, h2, rfl⟩ | ⟨h1, h2, rfl⟩
  all_goals
    go_enter Try.func24, Try.ntmps24
    go_wp2_with fail
    go_ret
    exact ⟨by first | rfl | exact ret_bool (by simp; try omega), rfl⟩
theorem sty_any (x : Int) (w : World) : Calls Try.prog 24 #[.int .i64 x] w fun e w' => e = .returned (.bool (styB x)) ∧ Below w.heap.size w w' := by
  refine (sty_core x (styB x) w ?_).mono fun e w' ⟨h1, h2⟩ => ⟨h1, h2 ▸ bq_refl w⟩
  by_cases h1 : x < 0
  · exact Or.inl ⟨h1, by simp [styB]; omega⟩
  · by_cases h2 : 255 < x
    · exact Or.inr (Or.inl ⟨by omega, h2, by simp [styB]; omega⟩)
    · exact Or.inr (Or.inr ⟨by omega, by omega, by simp [styB]; omega⟩)
set_option maxHeartbeats 1000000 in
theorem smp_core (x r : Int) (q : Bool) (w : World) (hr : x.tmod 2 = r) (hq : x < -16777216 ∧ q = false ∨ -16777216 ≤ x ∧ 16777216 < x ∧ q = false ∨ -16777216 ≤ x ∧ x ≤ 16777216 ∧ q = (r != 0)) :
    Calls Try.prog 27 #[.int .i64 x] w fun e w' => e = .returned (.bool q) ∧ w = w' := by
  rcases hq with ⟨h1, rfl⟩ | ⟨h1, h2, rfl⟩ | ⟨h1, h2, h3⟩
  · go_enter Try.func27, Try.ntmps27
    go_wp2_with fail
    go_ret
    exact ⟨by first | rfl | exact ret_bool (by simp; try omega), rfl⟩
  · go_enter Try.func27, Try.ntmps27
    go_wp2_with fail
    go_ret
    exact ⟨by first | rfl | exact ret_bool (by simp; try omega), rfl⟩
  · have H3 := Lib.hid h3
    clear h3
    go_enter Try.func27, Try.ntmps27
    go_wp2_with fail
    go_ret
    exact ⟨ret_bool H3.out.symm, rfl⟩
theorem smp_any (x : Int) (w : World) : Calls Try.prog 27 #[.int .i64 x] w fun e w' => e = .returned (.bool (smpB x)) ∧ Below w.heap.size w w' := by
  refine (smp_core x _ (smpB x) w rfl ?_).mono fun e w' ⟨h1, h2⟩ => ⟨h1, h2 ▸ bq_refl w⟩
  by_cases h1 : x < -16777216
  · exact Or.inl ⟨h1, by simp [smpB]; omega⟩
  · by_cases h2 : 16777216 < x
    · exact Or.inr (Or.inl ⟨by omega, h2, by simp [smpB]; omega⟩)
    · refine Or.inr (Or.inr ⟨by omega, by omega, ?_⟩)
      have e := tmod2 x
      rw [Bool.eq_iff_iff]
      simp [smpB]
      omega
set_option maxHeartbeats 1000000 in
theorem odd_core (x r : Int) (q : Bool) (w : World) (hr : x.tmod 2 = r) (hq : (r != 0) = false ∧ q = false ∨ (r != 0) = true ∧ x < -16777216 ∧ q = false ∨ (r != 0) = true ∧ -16777216 ≤ x ∧ 16777216 < x ∧ q = false ∨ (r != 0) = true ∧ -16777216 ≤ x ∧ x ≤ 16777216 ∧ q = true) :
    Calls Try.prog 14 #[.int .i64 x] w fun e w' => e = .returned (.bool q) ∧ w = w' := by
  rcases hq with ⟨h0, rfl⟩ | ⟨h0, h1, rfl⟩ | ⟨h0, h1, h2, rfl⟩ | ⟨h0, h1, h2, rfl⟩
  all_goals
    go_enter Try.func14, Try.ntmps14
    go_wp2_with fail
    go_ret
    exact ⟨by first | rfl | exact ret_bool (by simp; try omega), rfl⟩
theorem odd_any (x : Int) (w : World) : Calls Try.prog 14 #[.int .i64 x] w fun e w' => e = .returned (.bool (smpB x)) ∧ Below w.heap.size w w' := by
  refine (odd_core x _ (smpB x) w rfl ?_).mono fun e w' ⟨h1, h2⟩ => ⟨h1, h2 ▸ bq_refl w⟩
  have e := tmod2 x
  by_cases h0 : x.tmod 2 = 0
  · exact Or.inl ⟨by simp [h0], by simp [smpB]; omega⟩
  · have h0' : (x.tmod 2 != 0) = true := by simp [h0]
    by_cases h1 : x < -16777216
    · exact Or.inr (Or.inl ⟨h0', h1, by simp [smpB]; omega⟩)
    · by_cases h2 : 16777216 < x
      · exact Or.inr (Or.inr (Or.inl ⟨h0', by omega, h2, by simp [smpB]; omega⟩))
      · exact Or.inr (Or.inr (Or.inr ⟨h0', by omega, by omega, by simp [smpB]; omega⟩))
set_option maxHeartbeats 1000000 in
theorem ends_core (ax ay bx by1 l r : Int) (q1 q2 : Bool) (w : World) (H1 : Hid (∀ W, Calls Try.prog 34 #[.agg #[.int .i64 ax, .int .i64 ay]] W fun e w' => e = .returned (.bool q1) ∧ Below W.heap.size W w')) (H2 : Hid (∀ W, Calls Try.prog 34 #[.agg #[.int .i64 bx, .int .i64 by1]] W fun e w' => e = .returned (.bool q2) ∧ Below W.heap.size W w')) :
    Calls Try.prog 23 #[.agg #[.int .i64 ax, .int .i64 ay, .int .i64 bx, .int .i64 by1, .int .i64 l, .int .i64 r]] w fun e w' => e = .returned (.bool (q1 && q2)) ∧ Below w.heap.size w w' := by
  cases q1
  · go_enter Try.func23, Try.ntmps23
    go_upto_region 1 with (go_big_may; first
      | (refine wl_box 27 _ _ rfl rfl (show _ = Value.agg #[.int .i64 ax, .int .i64 ay, .int .i64 bx, .int .i64 by1, .int .i64 l, .int .i64 r] from rfl) ?_; intro W1 bp Bp_1 l1 k1; have gp : w.heap.size ≤ bp := l1; have Hw1 := k1; clear l1 k1))
    go_wp2_with (first
      | (refine wlg_mid17 25 _ Try.underlying25 rfl _ rfl (by rfl) bp 0 rfl (.int .i64 ax) (.int .i64 ay) szPt _ _ Bp_1 rfl rfl ?_)
      | (go_at_call 34; (with_reducible refine (H1.out _).mono ?_); rintro e W2 ⟨rfl, k2⟩; have Bp_2 := Bp_1.keep k2; have Hw2 := bq_trans Hw1 k2; clear k2 Bp_1 Hw1))
    go_ret
    exact ⟨rfl, Hw2⟩
  · go_enter Try.func23, Try.ntmps23
    go_upto_region 1 with (go_big_may; first
      | (refine wl_box 27 _ _ rfl rfl (show _ = Value.agg #[.int .i64 ax, .int .i64 ay, .int .i64 bx, .int .i64 by1, .int .i64 l, .int .i64 r] from rfl) ?_; intro W1 bp Bp_1 l1 k1; have gp : w.heap.size ≤ bp := l1; have Hw1 := k1; clear l1 k1))
    go_wp2_with (first
      | (refine wlg_mid17 25 _ Try.underlying25 rfl _ rfl (by rfl) bp 0 rfl (.int .i64 ax) (.int .i64 ay) szPt _ _ Bp_1 rfl rfl ?_)
      | (go_at_call 34; (with_reducible refine (H1.out _).mono ?_); rintro e W2 ⟨rfl, k2⟩; have Bp_2 := Bp_1.keep k2; have Hw2 := bq_trans Hw1 k2; clear k2 Bp_1 Hw1)
      | (refine wlg_mid17 25 _ Try.underlying25 rfl _ rfl (by rfl) bp 2 rfl (.int .i64 bx) (.int .i64 by1) szPt _ _ Bp_2 rfl rfl ?_)
      | (go_at_call 34; (with_reducible refine (H2.out _).mono ?_); rintro e W3 ⟨rfl, k3⟩; have Bp_3 := Bp_2.keep k3; have Hw3 := bq_trans Hw2 k3; clear k3 Bp_2 Hw2))
    go_ret
    exact ⟨by rw [Bool.true_and]; rfl, Hw3⟩
theorem ends_any (ax ay bx by1 l r : Int) (w : World) : Calls Try.prog 23 #[.agg #[.int .i64 ax, .int .i64 ay, .int .i64 bx, .int .i64 by1, .int .i64 l, .int .i64 r]] w fun e w' => e = .returned (.bool (evP ax ay && evP bx by1)) ∧ Below w.heap.size w w' :=
  ends_core ax ay bx by1 l r _ _ w (Lib.hid (even16_any ax ay)) (Lib.hid (even16_any bx by1))
set_option maxHeartbeats 1000000 in
theorem right17_core (ax ay bx by1 l r : Int) (q1 q2 q3 : Bool) (w : World) (H1 : Hid (∀ W, Calls Try.prog 23 #[.agg #[.int .i64 ax, .int .i64 ay, .int .i64 bx, .int .i64 by1, .int .i64 l, .int .i64 r]] W fun e w' => e = .returned (.bool q1) ∧ Below W.heap.size W w')) (H2 : Hid (∀ W, Calls Try.prog 24 #[.int .i64 l] W fun e w' => e = .returned (.bool q2) ∧ Below W.heap.size W w')) (H3 : Hid (∀ W, Calls Try.prog 24 #[.int .i64 r] W fun e w' => e = .returned (.bool q3) ∧ Below W.heap.size W w')) :
    Calls Try.prog 12 #[.agg #[.int .i64 ax, .int .i64 ay, .int .i64 bx, .int .i64 by1, .int .i64 l, .int .i64 r]] w fun e w' => e = .returned (.bool (q1 && q2 && q3)) ∧ Below w.heap.size w w' := by
  cases q1
  · go_enter Try.func12, Try.ntmps12
    go_upto_region 1 with (go_big_may; first
      | (refine wl_box 27 _ _ rfl rfl (show _ = Value.agg #[.int .i64 ax, .int .i64 ay, .int .i64 bx, .int .i64 by1, .int .i64 l, .int .i64 r] from rfl) ?_; intro W1 bp Bp_1 l1 k1; have gp : w.heap.size ≤ bp := l1; have Hw1 := k1; clear l1 k1))
    go_wp2_with (first
      | (refine wl_load 27 6 _ Try.underlying27 rfl szSg _ rfl rfl _ rfl _ _ Bp_1 rfl ?_)
      | (go_at_call 23; (with_reducible refine (H1.out _).mono ?_); rintro e W2 ⟨rfl, k2⟩; have Bp_2 := Bp_1.keep k2; have Hw2 := bq_trans Hw1 k2; clear k2 Bp_1 Hw1))
    go_ret
    exact ⟨rfl, Hw2⟩
  · cases q2
    · go_enter Try.func12, Try.ntmps12
      go_upto_region 1 with (go_big_may; first
        | (refine wl_box 27 _ _ rfl rfl (show _ = Value.agg #[.int .i64 ax, .int .i64 ay, .int .i64 bx, .int .i64 by1, .int .i64 l, .int .i64 r] from rfl) ?_; intro W1 bp Bp_1 l1 k1; have gp : w.heap.size ≤ bp := l1; have Hw1 := k1; clear l1 k1))
      go_wp2_with (first
        | (refine wl_load 27 6 _ Try.underlying27 rfl szSg _ rfl rfl _ rfl _ _ Bp_1 rfl ?_)
        | (go_at_call 23; (with_reducible refine (H1.out _).mono ?_); rintro e W2 ⟨rfl, k2⟩; have Bp_2 := Bp_1.keep k2; have Hw2 := bq_trans Hw1 k2; clear k2 Bp_1 Hw1; have cp_4_2 : W2.cell? ⟨bp, 4, none⟩ = some (.int .i64 l) := Bp_2.cell 4)
        | (go_at_call 24; (with_reducible refine (H2.out _).mono ?_); rintro e W3 ⟨rfl, k3⟩; have Bp_3 := Bp_2.keep k3; have Hw3 := bq_trans Hw2 k3; clear k3 Bp_2 cp_4_2 Hw2))
      go_ret
      exact ⟨rfl, Hw3⟩
    · go_enter Try.func12, Try.ntmps12
      go_upto_region 1 with (go_big_may; first
        | (refine wl_box 27 _ _ rfl rfl (show _ = Value.agg #[.int .i64 ax, .int .i64 ay, .int .i64 bx, .int .i64 by1, .int .i64 l, .int .i64 r] from rfl) ?_; intro W1 bp Bp_1 l1 k1; have gp : w.heap.size ≤ bp := l1; have Hw1 := k1; clear l1 k1))
      go_wp2_with (first
        | (refine wl_load 27 6 _ Try.underlying27 rfl szSg _ rfl rfl _ rfl _ _ Bp_1 rfl ?_)
        | (go_at_call 23; (with_reducible refine (H1.out _).mono ?_); rintro e W2 ⟨rfl, k2⟩; have Bp_2 := Bp_1.keep k2; have Hw2 := bq_trans Hw1 k2; clear k2 Bp_1 Hw1; have cp_4_2 : W2.cell? ⟨bp, 4, none⟩ = some (.int .i64 l) := Bp_2.cell 4)
        | (go_at_call 24; (with_reducible refine (H2.out _).mono ?_); rintro e W3 ⟨rfl, k3⟩; have Bp_3 := Bp_2.keep k3; have Hw3 := bq_trans Hw2 k3; clear k3 Bp_2 cp_4_2 Hw2; have cp_5_3 : W3.cell? ⟨bp, 5, none⟩ = some (.int .i64 r) := Bp_3.cell 5)
        | (go_at_call 24; (with_reducible refine (H3.out _).mono ?_); rintro e W4 ⟨rfl, k4⟩; have Bp_4 := Bp_3.keep k4; have Hw4 := bq_trans Hw3 k4; clear k4 Bp_3 cp_5_3 Hw3))
      go_ret
      exact ⟨by cases q3 <;> rfl, Hw4⟩
theorem right17_any (s : Sg) (w : World) : Calls Try.prog 12 #[.agg #[.int .i64 s.ax, .int .i64 s.ay, .int .i64 s.bx, .int .i64 s.by1, .int .i64 s.l, .int .i64 s.r]] w fun e w' => e = .returned (.bool (rgtS s)) ∧ Below w.heap.size w w' :=
  right17_core s.ax s.ay s.bx s.by1 s.l s.r _ _ _ w (Lib.hid (ends_any s.ax s.ay s.bx s.by1 s.l s.r)) (Lib.hid (sty_any s.l)) (Lib.hid (sty_any s.r))
set_option maxHeartbeats 2000000 in
theorem rright17_core (ax ay bx by1 l r : Int) (q1 q2 : Bool) (Q : Bool) (w : World) (H1 : Hid (∀ W, Calls Try.prog 25 #[.agg #[.int .i64 ax, .int .i64 ay]] W fun e w' => e = .returned (.bool q1) ∧ Below W.heap.size W w')) (H2 : Hid (∀ W, Calls Try.prog 25 #[.agg #[.int .i64 bx, .int .i64 by1]] W fun e w' => e = .returned (.bool q2) ∧ Below W.heap.size W w'))
    (hq : q1 = false ∧ Q = false ∨ q1 = true ∧ q2 = false ∧ Q = false ∨ q1 = true ∧ q2 = true ∧ l < 0 ∧ Q = false ∨ q1 = true ∧ q2 = true ∧ 0 ≤ l ∧ 255 < l ∧ Q = false ∨
      q1 = true ∧ q2 = true ∧ 0 ≤ l ∧ l ≤ 255 ∧ r < 0 ∧ Q = false ∨ q1 = true ∧ q2 = true ∧ 0 ≤ l ∧ l ≤ 255 ∧ 0 ≤ r ∧ 255 < r ∧ Q = false ∨ q1 = true ∧ q2 = true ∧ 0 ≤ l ∧ l ≤ 255 ∧ 0 ≤ r ∧ r ≤ 255 ∧ Q = true) :
    Calls Try.prog 13 #[.agg #[.int .i64 ax, .int .i64 ay, .int .i64 bx, .int .i64 by1, .int .i64 l, .int .i64 r]] w fun e w' => e = .returned (.bool Q) ∧ Below w.heap.size w w' := by
  rcases hq with ⟨rfl, rfl⟩ | ⟨rfl, rfl, rfl⟩ | ⟨rfl, rfl, h1, rfl⟩ | ⟨rfl, rfl, h1, h2, rfl⟩ | ⟨rfl, rfl, h1, h2, h3, rfl⟩ | ⟨rfl, rfl, h1, h2, h3, h4, rfl⟩ | ⟨rfl, rfl, h1, h2, h3, h4, rfl⟩
  · go_enter Try.func13, Try.ntmps13
    go_upto_region 1 with (go_big_may; first
      | (refine wl_box 30 _ _ rfl rfl (show _ = Value.agg #[.int .i64 ax, .int .i64 ay, .int .i64 bx, .int .i64 by1, .int .i64 l, .int .i64 r] from rfl) ?_; intro W1 bp Bp_1 l1 k1; have gp : w.heap.size ≤ bp := l1; have Hw1 := k1; clear l1 k1))
    go_wp2_with (first
      | (refine wlg_mid17 25 _ Try.underlying25 rfl _ rfl (by rfl) bp 0 rfl (.int .i64 ax) (.int .i64 ay) szPt _ _ Bp_1 rfl rfl ?_)
      | (go_at_call 25; (with_reducible refine (H1.out _).mono ?_); rintro e W2 ⟨rfl, k2⟩; have Bp_2 := Bp_1.keep k2; have Hw2 := bq_trans Hw1 k2; clear k2 Bp_1 Hw1))
    go_ret
    exact ⟨by first | rfl | exact ret_bool (by simp; try omega), Hw2⟩
  · go_enter Try.func13, Try.ntmps13
    go_upto_region 1 with (go_big_may; first
      | (refine wl_box 30 _ _ rfl rfl (show _ = Value.agg #[.int .i64 ax, .int .i64 ay, .int .i64 bx, .int .i64 by1, .int .i64 l, .int .i64 r] from rfl) ?_; intro W1 bp Bp_1 l1 k1; have gp : w.heap.size ≤ bp := l1; have Hw1 := k1; clear l1 k1))
    go_wp2_with (first
      | (refine wlg_mid17 25 _ Try.underlying25 rfl _ rfl (by rfl) bp 0 rfl (.int .i64 ax) (.int .i64 ay) szPt _ _ Bp_1 rfl rfl ?_)
      | (go_at_call 25; (with_reducible refine (H1.out _).mono ?_); rintro e W2 ⟨rfl, k2⟩; have Bp_2 := Bp_1.keep k2; have Hw2 := bq_trans Hw1 k2; clear k2 Bp_1 Hw1)
      | (refine wlg_mid17 25 _ Try.underlying25 rfl _ rfl (by rfl) bp 2 rfl (.int .i64 bx) (.int .i64 by1) szPt _ _ Bp_2 rfl rfl ?_)
      | (go_at_call 25; (with_reducible refine (H2.out _).mono ?_); rintro e W3 ⟨rfl, k3⟩; have Bp_3 := Bp_2.keep k3; have Hw3 := bq_trans Hw2 k3; clear k3 Bp_2 Hw2))
    go_ret
    exact ⟨by first | rfl | exact ret_bool (by simp; try omega), Hw3⟩
  · go_enter Try.func13, Try.ntmps13
    go_upto_region 1 with (go_big_may; first
      | (refine wl_box 30 _ _ rfl rfl (show _ = Value.agg #[.int .i64 ax, .int .i64 ay, .int .i64 bx, .int .i64 by1, .int .i64 l, .int .i64 r] from rfl) ?_; intro W1 bp Bp_1 l1 k1; have gp : w.heap.size ≤ bp := l1; have Hw1 := k1; clear l1 k1))
    go_wp2_with (first
      | (refine wlg_mid17 25 _ Try.underlying25 rfl _ rfl (by rfl) bp 0 rfl (.int .i64 ax) (.int .i64 ay) szPt _ _ Bp_1 rfl rfl ?_)
      | (go_at_call 25; (with_reducible refine (H1.out _).mono ?_); rintro e W2 ⟨rfl, k2⟩; have Bp_2 := Bp_1.keep k2; have Hw2 := bq_trans Hw1 k2; clear k2 Bp_1 Hw1)
      | (refine wlg_mid17 25 _ Try.underlying25 rfl _ rfl (by rfl) bp 2 rfl (.int .i64 bx) (.int .i64 by1) szPt _ _ Bp_2 rfl rfl ?_)
      | (go_at_call 25; (with_reducible refine (H2.out _).mono ?_); rintro e W3 ⟨rfl, k3⟩; have Bp_3 := Bp_2.keep k3; have Hw3 := bq_trans Hw2 k3; clear k3 Bp_2 Hw2; have cp_4_3 : W3.cell? ⟨bp, 4, none⟩ = some (.int .i64 l) := Bp_3.cell 4; have cp_5_3 : W3.cell? ⟨bp, 5, none⟩ = some (.int .i64 r) := Bp_3.cell 5))
    go_ret
    exact ⟨by first | rfl | exact ret_bool (by simp; try omega), Hw3⟩
  · go_enter Try.func13, Try.ntmps13
    go_upto_region 1 with (go_big_may; first
      | (refine wl_box 30 _ _ rfl rfl (show _ = Value.agg #[.int .i64 ax, .int .i64 ay, .int .i64 bx, .int .i64 by1, .int .i64 l, .int .i64 r] from rfl) ?_; intro W1 bp Bp_1 l1 k1; have gp : w.heap.size ≤ bp := l1; have Hw1 := k1; clear l1 k1))
    go_wp2_with (first
      | (refine wlg_mid17 25 _ Try.underlying25 rfl _ rfl (by rfl) bp 0 rfl (.int .i64 ax) (.int .i64 ay) szPt _ _ Bp_1 rfl rfl ?_)
      | (go_at_call 25; (with_reducible refine (H1.out _).mono ?_); rintro e W2 ⟨rfl, k2⟩; have Bp_2 := Bp_1.keep k2; have Hw2 := bq_trans Hw1 k2; clear k2 Bp_1 Hw1)
      | (refine wlg_mid17 25 _ Try.underlying25 rfl _ rfl (by rfl) bp 2 rfl (.int .i64 bx) (.int .i64 by1) szPt _ _ Bp_2 rfl rfl ?_)
      | (go_at_call 25; (with_reducible refine (H2.out _).mono ?_); rintro e W3 ⟨rfl, k3⟩; have Bp_3 := Bp_2.keep k3; have Hw3 := bq_trans Hw2 k3; clear k3 Bp_2 Hw2; have cp_4_3 : W3.cell? ⟨bp, 4, none⟩ = some (.int .i64 l) := Bp_3.cell 4; have cp_5_3 : W3.cell? ⟨bp, 5, none⟩ = some (.int .i64 r) := Bp_3.cell 5))
    go_ret
    exact ⟨by first | rfl | exact ret_bool (by simp; try omega), Hw3⟩
  · go_enter Try.func13, Try.ntmps13
    go_upto_region 1 with (go_big_may; first
      | (refine wl_box 30 _ _ rfl rfl (show _ = Value.agg #[.int .i64 ax, .int .i64 ay, .int .i64 bx, .int .i64 by1, .int .i64 l, .int .i64 r] from rfl) ?_; intro W1 bp Bp_1 l1 k1; have gp : w.heap.size ≤ bp := l1; have Hw1 := k1; clear l1 k1))
    go_wp2_with (first
      | (refine wlg_mid17 25 _ Try.underlying25 rfl _ rfl (by rfl) bp 0 rfl (.int .i64 ax) (.int .i64 ay) szPt _ _ Bp_1 rfl rfl ?_)
      | (go_at_call 25; (with_reducible refine (H1.out _).mono ?_); rintro e W2 ⟨rfl, k2⟩; have Bp_2 := Bp_1.keep k2; have Hw2 := bq_trans Hw1 k2; clear k2 Bp_1 Hw1)
      | (refine wlg_mid17 25 _ Try.underlying25 rfl _ rfl (by rfl) bp 2 rfl (.int .i64 bx) (.int .i64 by1) szPt _ _ Bp_2 rfl rfl ?_)
      | (go_at_call 25; (with_reducible refine (H2.out _).mono ?_); rintro e W3 ⟨rfl, k3⟩; have Bp_3 := Bp_2.keep k3; have Hw3 := bq_trans Hw2 k3; clear k3 Bp_2 Hw2; have cp_4_3 : W3.cell? ⟨bp, 4, none⟩ = some (.int .i64 l) := Bp_3.cell 4; have cp_5_3 : W3.cell? ⟨bp, 5, none⟩ = some (.int .i64 r) := Bp_3.cell 5))
    go_ret
    exact ⟨by first | rfl | exact ret_bool (by simp; try omega), Hw3⟩
  · go_enter Try.func13, Try.ntmps13
    go_upto_region 1 with (go_big_may; first
      | (refine wl_box 30 _ _ rfl rfl (show _ = Value.agg #[.int .i64 ax, .int .i64 ay, .int .i64 bx, .int .i64 by1, .int .i64 l, .int .i64 r] from rfl) ?_; intro W1 bp Bp_1 l1 k1; have gp : w.heap.size ≤ bp := l1; have Hw1 := k1; clear l1 k1))
    go_wp2_with (first
      | (refine wlg_mid17 25 _ Try.underlying25 rfl _ rfl (by rfl) bp 0 rfl (.int .i64 ax) (.int .i64 ay) szPt _ _ Bp_1 rfl rfl ?_)
      | (go_at_call 25; (with_reducible refine (H1.out _).mono ?_); rintro e W2 ⟨rfl, k2⟩; have Bp_2 := Bp_1.keep k2; have Hw2 := bq_trans Hw1 k2; clear k2 Bp_1 Hw1)
      | (refine wlg_mid17 25 _ Try.underlying25 rfl _ rfl (by rfl) bp 2 rfl (.int .i64 bx) (.int .i64 by1) szPt _ _ Bp_2 rfl rfl ?_)
      | (go_at_call 25; (with_reducible refine (H2.out _).mono ?_); rintro e W3 ⟨rfl, k3⟩; have Bp_3 := Bp_2.keep k3; have Hw3 := bq_trans Hw2 k3; clear k3 Bp_2 Hw2; have cp_4_3 : W3.cell? ⟨bp, 4, none⟩ = some (.int .i64 l) := Bp_3.cell 4; have cp_5_3 : W3.cell? ⟨bp, 5, none⟩ = some (.int .i64 r) := Bp_3.cell 5))
    go_ret
    exact ⟨by first | rfl | exact ret_bool (by simp; try omega), Hw3⟩
  · go_enter Try.func13, Try.ntmps13
    go_upto_region 1 with (go_big_may; first
      | (refine wl_box 30 _ _ rfl rfl (show _ = Value.agg #[.int .i64 ax, .int .i64 ay, .int .i64 bx, .int .i64 by1, .int .i64 l, .int .i64 r] from rfl) ?_; intro W1 bp Bp_1 l1 k1; have gp : w.heap.size ≤ bp := l1; have Hw1 := k1; clear l1 k1))
    go_wp2_with (first
      | (refine wlg_mid17 25 _ Try.underlying25 rfl _ rfl (by rfl) bp 0 rfl (.int .i64 ax) (.int .i64 ay) szPt _ _ Bp_1 rfl rfl ?_)
      | (go_at_call 25; (with_reducible refine (H1.out _).mono ?_); rintro e W2 ⟨rfl, k2⟩; have Bp_2 := Bp_1.keep k2; have Hw2 := bq_trans Hw1 k2; clear k2 Bp_1 Hw1)
      | (refine wlg_mid17 25 _ Try.underlying25 rfl _ rfl (by rfl) bp 2 rfl (.int .i64 bx) (.int .i64 by1) szPt _ _ Bp_2 rfl rfl ?_)
      | (go_at_call 25; (with_reducible refine (H2.out _).mono ?_); rintro e W3 ⟨rfl, k3⟩; have Bp_3 := Bp_2.keep k3; have Hw3 := bq_trans Hw2 k3; clear k3 Bp_2 Hw2; have cp_4_3 : W3.cell? ⟨bp, 4, none⟩ = some (.int .i64 l) := Bp_3.cell 4; have cp_5_3 : W3.cell? ⟨bp, 5, none⟩ = some (.int .i64 r) := Bp_3.cell 5))
    go_ret
    exact ⟨by first | rfl | exact ret_bool (by simp; try omega), Hw3⟩
theorem rright17_any (s : Sg) (w : World) : Calls Try.prog 13 #[.agg #[.int .i64 s.ax, .int .i64 s.ay, .int .i64 s.bx, .int .i64 s.by1, .int .i64 s.l, .int .i64 s.r]] w fun e w' => e = .returned (.bool (rgtS s)) ∧ Below w.heap.size w w' := by
  refine rright17_core s.ax s.ay s.bx s.by1 s.l s.r (evP s.ax s.ay) (evP s.bx s.by1) _ w (Lib.hid (reven16_any s.ax s.ay)) (Lib.hid (reven16_any s.bx s.by1)) ?_
  unfold rgtS
  cases evP s.ax s.ay
  · exact Or.inl ⟨rfl, rfl⟩
  cases evP s.bx s.by1
  · exact Or.inr (Or.inl ⟨rfl, rfl, rfl⟩)
  unfold styB
  by_cases h1 : 0 ≤ s.l <;> by_cases h2 : s.l ≤ 255 <;> by_cases h3 : 0 ≤ s.r <;> by_cases h4 : s.r ≤ 255 <;> simp [h1, h2, h3, h4] <;> omega
end Go.Proofs.Ytgopaajmbifbaaa
