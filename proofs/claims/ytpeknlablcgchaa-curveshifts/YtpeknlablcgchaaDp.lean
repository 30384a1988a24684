import Derived.Test.YtpeknlablcgchaaDn
/- A region that draws its order and makes one new value (a row of one element) at which its last operations alone look: the others in any order, the last ones behind them all. -/
namespace Go.Proofs.Ytpeknlablcgchaa.Dap
open Go Go.RowKit Det
set_option linter.unusedVariables false
/-- what the maker does in every world behind W: it tells a value for which R stands -/
def Makes (P : Program) (W : World) (R : Value → World → Prop) (o : Oper) (a : Act) : Prop :=
  o.guard = none ∧ ∀ w, Below W.heap.size W w → ∃ q w', (execOp a.eval o).run P w = .ok (.value q) w' ∧ Below w.heap.size w w' ∧ R q w'
/-- the walk, in the text's order; the new value is put in at the end, ahead of the last operations -/
def wpDet (P : Program) (ops : Array Oper) (Q : Exit → Act → World → Prop) (W : World) (p : Nat) (dp : Tmp) (R : Value → World → Prop) (tail : List Oper) : Nat → List Oper → Act → Prop
  | _, [], a => ∀ w q, Below W.heap.size W w → R q w → wpList P ops Q tail (a.put (some dp) q) w
  | k, o :: rest, a => (k = p ∧ Makes P W R o a ∧ wpDet P ops Q W p dp R tail (k + 1) rest (a.put o.dst undef)) ∨
    (k ≠ p ∧ ∃ v, Dnw.Tells P ops W o v a ∧ wpDet P ops Q W p dp R tail (k + 1) rest (a.put o.dst v))
/-- each operation ahead of n is awaited by a later one no further than n; behind n each waits for the one ahead -/
def tailB (n : Nat) (ops : Array Oper) : Bool :=
  decide (n < ops.size) && ((List.range n).all fun i => (List.range (n + 1)).any fun j => decide (i < j) && match ops[j]? with
    | none => false
    | some y => y.after.any fun e => Region.binds .any e && e.on == i) &&
  (List.range ops.size).all fun i => decide (i ≤ n) || match ops[i]? with
    | none => false
    | some y => y.after.any fun e => Region.binds .any e && e.on + 1 == i
/-- the maker -/
def makeB (p n : Nat) (dp : Tmp) (ops : Array Oper) : Bool :=
  decide (p < n) && (match ops[p]? with | none => false | some o => o.dst == some dp) && (List.range n).all fun i => match ops[i]? with | none => true | some x => !(x.looksAt ops).contains dp
structure Mk (p n : Nat) (dp : Tmp) (ops : Array Oper) : Prop where
  lt : p < n
  dst : ∃ o, ops[p]? = some o ∧ o.dst = some dp
  look : ∀ (i : Nat) (o : Oper), i < n → ops[i]? = some o → dp ∉ o.looksAt ops
theorem mk_of {p n : Nat} {dp : Tmp} {ops : Array Oper} (h : makeB p n dp ops = true) : Mk p n dp ops := by
  unfold makeB at h
  rw [Bool.and_eq_true, Bool.and_eq_true, decide_eq_true_eq, List.all_eq_true] at h
  obtain ⟨⟨h1, h2⟩, h3⟩ := h
  refine ⟨h1, ?_, fun i o hi ho hm => ?_⟩
  · cases ho : ops[p]? with
    | none => rw [ho] at h2; cases h2
    | some o =>
      rw [ho] at h2
      exact ⟨o, rfl, by simpa using h2⟩
  · have := h3 i (List.mem_range.2 hi)
    rw [ho] at this
    simp only [Bool.not_eq_true'] at this
    rw [List.contains_iff_mem.2 hm] at this
    cases this
structure Tl (n : Nat) (ops : Array Oper) : Prop where
  lt : n < ops.size
  before : ∀ i, i < n → ∃ j y, i < j ∧ j ≤ n ∧ ops[j]? = some y ∧ ∃ e ∈ y.after, Region.binds .any e = true ∧ e.on = i
  behind : ∀ (i : Nat) (y : Oper), n < i → ops[i]? = some y → ∃ e ∈ y.after, Region.binds .any e = true ∧ e.on + 1 = i
theorem tl_of {n : Nat} {ops : Array Oper} (h : tailB n ops = true) : Tl n ops := by
  unfold tailB at h
  rw [Bool.and_eq_true, Bool.and_eq_true, decide_eq_true_eq, List.all_eq_true, List.all_eq_true] at h
  obtain ⟨⟨h1, h2⟩, h3⟩ := h
  refine ⟨h1, fun i hi => ?_, fun i y hi hy => ?_⟩
  · have h4 := h2 i (List.mem_range.2 hi)
    rw [List.any_eq_true] at h4
    obtain ⟨j, hj, h5⟩ := h4
    rw [Bool.and_eq_true, decide_eq_true_eq] at h5
    obtain ⟨hij, h5⟩ := h5
    have hjn := List.mem_range.1 hj
    cases hy : ops[j]? with
    | none => rw [hy] at h5; cases h5
    | some y =>
      rw [hy] at h5
      obtain ⟨e, he, hb⟩ := Array.any_eq_true'.1 h5
      simp only [Bool.and_eq_true, beq_iff_eq] at hb
      exact ⟨j, y, hij, by omega, hy, e, he, hb.1, hb.2⟩
  · have h4 := h3 i (List.mem_range.2 (Array.getElem?_eq_some_iff.1 hy).1)
    rw [Bool.or_eq_true, decide_eq_true_eq] at h4
    rcases h4 with h4 | h4
    · omega
    · rw [hy] at h4
      obtain ⟨e, he, hb⟩ := Array.any_eq_true'.1 h4
      simp only [Bool.and_eq_true, beq_iff_eq] at hb
      exact ⟨e, he, hb.1, hb.2⟩
section
variable {P : Program} {ops : Array Oper} {Q : Exit → Act → World → Prop} {W : World} {p n : Nat} {dp : Tmp} {R : Value → World → Prop} {tail : List Oper}
/-- what stands behind the walk of an operation -/
def Step (P : Program) (ops : Array Oper) (W : World) (p : Nat) (R : Value → World → Prop) (j : Nat) (o : Oper) (v : Value) (c : Act) : Prop :=
  (j = p ∧ v = undef ∧ Makes P W R o c) ∨ (j ≠ p ∧ Dnw.Tells P ops W o v c)
theorem ends (F : Fit .any ops) (a0 : Act) (hn : n ≤ ops.size) (htl : tail.length = ops.size - n) : ∀ (l : List Oper) (k : Nat) (a : Act) (V0 : Nat → Value), k ≤ ops.size → ops.toList.drop k = l ++ tail → At ops a0 V0 (· < k) a → wpDet P ops Q W p dp R tail k l a →
    ∃ (V : Nat → Value) (af : Act), (∀ i, i < k → V i = V0 i) ∧ (∀ w q, Below W.heap.size W w → R q w → wpList P ops Q tail (af.put (some dp) q) w) ∧ At ops a0 V (· < n) af ∧
      ∀ j o, k ≤ j → j < n → ops[j]? = some o → ∃ c, At ops a0 V (· < j) c ∧ Step P ops W p R j o (V j) c := by
  intro l
  induction l with
  | nil =>
    intro k a V0 hk hl hA h
    have h1 : k = n := by
      have := congrArg List.length hl
      simp at this
      omega
    subst h1
    exact ⟨V0, a, fun _ _ => rfl, h, hA, fun j o hj hj2 _ => by omega⟩
  | cons o l ih =>
    intro k a V0 hk0 hl hA h
    have hk : ops[k]? = some o := by
      have := congrArg List.head? hl
      simpa [List.head?_drop] using this
    have hkl := (Array.getElem?_eq_some_iff.1 hk).1
    have hl' : ops.toList.drop (k + 1) = l ++ tail := by
      rw [← List.drop_drop, hl]; rfl
    have key : ∀ v : Value, Step P ops W p R k o v a → wpDet P ops Q W p dp R tail (k + 1) l (a.put o.dst v) → ∃ (V : Nat → Value) (af : Act), (∀ i, i < k → V i = V0 i) ∧ (∀ w q, Below W.heap.size W w → R q w → wpList P ops Q tail (af.put (some dp) q) w) ∧ At ops a0 V (· < n) af ∧
        ∀ j o, k ≤ j → j < n → ops[j]? = some o → ∃ c, At ops a0 V (· < j) c ∧ Step P ops W p R j o (V j) c := by
      intro v hv hrest
      have hA1 : At ops a0 (fun i => if i = k then v else V0 i) (· < k) a := hA.to fun i hi => (if_neg (by omega)).symm
      have hA2 := hA1.step F (E := (· < k + 1)) hk (fun i => by omega)
      have ek : (if k = k then v else V0 k) = v := if_pos rfl
      rw [ek] at hA2
      obtain ⟨V, af, g1, g2, g3, g4⟩ := ih (k + 1) _ _ (by omega) hl' hA2 hrest
      have hVk : V k = v := (g1 k (by omega)).trans ek
      refine ⟨V, af, fun i hi => (g1 i (by omega)).trans (if_neg (by omega)), g2, g3, fun j y hj hj2 hy => ?_⟩
      by_cases hjk : j = k
      · subst hjk
        rw [hk] at hy
        cases hy
        exact ⟨a, hA1.to fun i hi => (g1 i (by omega)).symm, by rw [hVk]; exact hv⟩
      · exact g4 j y (by omega) hj2 hy
    rcases h with ⟨h1, h2, h3⟩ | ⟨h1, v, h3, h4⟩
    · exact key undef (.inl ⟨h1, rfl, h2⟩) h3
    · exact key v (.inr ⟨h1, h3⟩) h4
/-- the last ones, one behind the other -/
theorem tailAny (F : Fit .any ops) (T : Tl n ops) : ∀ (l : List Oper) (k fuel : Nat) (listed : Array Bool) (a : Act) (w : World), ops.toList.drop k = l → n ≤ k → k ≤ ops.size → listed.size = ops.size → (∀ i : Nat, listed[i]? = some true ↔ i < k) → listed.toList.count false ≤ fuel → wpList P ops Q l a w → wpAny P .any ops Q fuel listed a w := by
  intro l
  induction l with
  | nil =>
    intro k fuel listed a w hl hnk hk hs hx hc h
    have hks : k = ops.size := by
      have := congrArg List.length hl
      simp at this
      omega
    have hr : Region.ready .any ops listed = [] := none_ready fun j hj => (hx j).2 (by omega)
    cases fuel with
    | zero => exact ⟨hr, h⟩
    | succ fuel => exact ⟨fun _ => h, fun j hj => by rw [hr] at hj; cases hj⟩
  | cons o l ih =>
    intro k fuel listed a w hl hnk hk hs hx hc h
    have hok : ops[k]? = some o := by
      have := congrArg List.head? hl
      simpa [List.head?_drop] using this
    have hkl := (Array.getElem?_eq_some_iff.1 hok).1
    have hl' : ops.toList.drop (k + 1) = l := by
      rw [← List.drop_drop, hl]; rfl
    have hkf : listed[k]? = some false := by
      have h2 : k < listed.size := by omega
      have h1 : listed[k]? ≠ some true := fun h => by have := (hx k).1 h; omega
      rw [Array.getElem?_eq_getElem h2] at h1 ⊢
      cases hq : listed[k] with
      | true => rw [hq] at h1; exact absurd rfl h1
      | false => rfl
    have hpos : 0 < listed.toList.count false := List.count_pos_iff.2 (by
      have hlt := Array.getElem?_eq_some_iff.1 hkf
      rw [← hlt.2]
      exact Array.getElem_mem_toList hlt.1)
    cases fuel with
    | zero => omega
    | succ fuel =>
      have hlist : ∀ i : Nat, (listed.setIfInBounds k true)[i]? = some true ↔ i < k + 1 := fun i => by
        by_cases hki : i = k
        · subst hki
          have : i < listed.size := by omega
          simp [this]
        · rw [Array.getElem?_setIfInBounds_ne (Ne.symm hki), hx i]
          omega
      refine ⟨fun hr => ?_, fun i hi => ?_⟩
      · exfalso
        -- k is ready
        have : k ∈ Region.ready .any ops listed := mem_ready.2 ⟨by rw [Array.getD_eq_getD_getElem?, hkf]; rfl, o, hok, fun e he hb => by
          have := (hx e.on).2 ?_
          · rw [Array.getD_eq_getD_getElem?, this]; rfl
          · exact F.back k o hok e he hb⟩
        rw [hr] at this
        cases this
      · obtain ⟨h0, y, hy, hall⟩ := mem_ready.1 hi
        have hilt : i < listed.size := by rw [hs]; exact (Array.getElem?_eq_some_iff.1 hy).1
        have hik : k ≤ i := by
          apply Decidable.byContradiction
          intro hlt
          have := (hx i).2 (by omega)
          rw [Array.getD_eq_getD_getElem?, this] at h0
          cases h0
        have hie : i = k := by
          apply Decidable.byContradiction
          intro hne
          obtain ⟨e, he, hb, hon⟩ := T.behind i y (by omega) hy
          have h1 := hall e he hb
          rw [Array.getD_eq_getD_getElem?] at h1
          have h2 : listed[e.on]? = some true := by
            cases hq : listed[e.on]? with
            | none => rw [hq] at h1; cases h1
            | some q => rw [hq] at h1; exact congrArg some h1
          have := (hx e.on).1 h2
          omega
        subst hie
        rw [hok] at hy
        cases hy
        have next : ∀ (b : Act) (w : World), wpList P ops Q l b w → wpAny P .any ops Q fuel (listed.setIfInBounds i true) b w := fun b w hb => ih (i + 1) fuel _ b w hl' (by omega) (by omega) (by simp [hs]) hlist (by
          have := count_set (l := listed.toList) (i := i) (by rw [Array.getElem?_toList]; exact hkf)
          rw [Array.toList_setIfInBounds]
          omega) hb
        unfold wpList at h
        unfold Go.wpOp
        simp only [hok]
        split
        · rename_i hwn
          rw [if_pos hwn] at h
          exact h.imp (Oper.wp_mono fun a w h => next a w h) id
        · rename_i hwn
          rw [if_neg hwn] at h
          exact next _ _ h
/-- what stands on the way -/
def Inv (ops : Array Oper) (a0 : Act) (V : Nat → Value) (W : World) (p : Nat) (R : Value → World → Prop) (listed : Array Bool) (b : Act) (w : World) : Prop :=
  ∃ q : Value, At ops a0 (Dnw.vq V p q) (fun i => listed[i]? = some true) b ∧ Below W.heap.size W w ∧ (listed[p]? = some true → R q w)
theorem anyOrder (F : Fit .any ops) (T : Tl n ops) (M : Mk p n dp ops) (hR : ∀ q w w', R q w → Below w.heap.size w w' → R q w') (ht : ops.toList.drop n = tail) {a0 af : Act} {V : Nat → Value} (hdp : dp < a0.tmps.size)
    (hQ : ∀ w q, Below W.heap.size W w → R q w → wpList P ops Q tail (af.put (some dp) q) w) (hf : At ops a0 V (· < n) af)
    (hT : ∀ (j : Nat) (o : Oper), j < n → ops[j]? = some o → ∃ c, At ops a0 V (· < j) c ∧ Step P ops W p R j o (V j) c) :
    ∀ (fuel : Nat) (listed : Array Bool) (b : Act) (w : World), listed.size = ops.size → listed.toList.count false ≤ fuel → (∀ i, n ≤ i → listed[i]? ≠ some true) → Inv ops a0 V W p R listed b w →
      (∀ (j : Nat) (o : Oper), ops[j]? = some o → listed[j]? = some true → ∀ e ∈ o.after, Region.binds .any e = true → listed[e.on]? = some true) → wpAny P .any ops Q fuel listed b w := by
  obtain ⟨op, hp, hpd⟩ := M.dst
  have hnl := T.lt
  intro fuel
  induction fuel with
  | zero =>
    intro listed b w hl hc hn hI hcl
    have h2 : n < listed.size := by omega
    have h1 := hn n (Nat.le_refl _)
    rw [Array.getElem?_eq_getElem h2] at h1
    have : false ∈ listed.toList := by
      cases hq : listed[n] with
      | true => rw [hq] at h1; exact absurd rfl h1
      | false => rw [← hq]; exact Array.getElem_mem_toList h2
    have := List.count_pos_iff.2 this
    omega
  | succ fuel ih =>
    intro listed b w hl hc hn hI hcl
    by_cases hall : ∀ i : Nat, i < n → listed[i]? = some true
    · -- the last ones
      have hx : ∀ i : Nat, listed[i]? = some true ↔ i < n := fun i => ⟨fun h => by
        apply Decidable.byContradiction
        intro h2
        exact hn i (by omega) h, hall i⟩
      obtain ⟨q, hA, hB, hq⟩ := hI
      have hA2 : At ops a0 (Dnw.vq V p q) (· < n) b := hA.iff hx
      have e : b = af.put (some dp) q := by
        have ht2 : b.tmps = (af.put (some dp) q).tmps := Array.ext_getElem? fun t => by
          by_cases htd : dp = t
          · subst htd
            rw [put_at (by rw [hf.size]; exact hdp), hA2.told p op dp M.lt hp hpd hdp, Dnw.vq, if_pos rfl]
          · rw [put_get (by simpa using htd)]
            by_cases hw : ∃ (i : Nat) (y : Oper), i < n ∧ ops[i]? = some y ∧ y.dst = some t
            · obtain ⟨i, y, hin, hy, hyd⟩ := hw
              by_cases hsz : t < a0.tmps.size
              · rw [hA2.told i y t hin hy hyd hsz, hf.told i y t hin hy hyd hsz, Dnw.vq, if_neg]
                intro hip
                subst hip
                rw [hp] at hy
                cases hy
                rw [hpd] at hyd
                cases hyd
                exact htd rfl
              · rw [Array.getElem?_eq_none (by rw [hA2.size]; exact Nat.le_of_not_lt hsz), Array.getElem?_eq_none (by rw [hf.size]; exact Nat.le_of_not_lt hsz)]
            · rw [hA2.old t fun i y hi hy hyt => hw ⟨i, y, hi, hy, hyt⟩, hf.old t fun i y hi hy hyt => hw ⟨i, y, hi, hy, hyt⟩]
        have hd := (hA2.defers.trans hf.defers.symm).trans (put_df af (some dp) q).symm
        generalize af.put (some dp) q = c at ht2 hd ⊢
        cases b; cases c
        simp only at ht2 hd
        rw [ht2, hd]
      rw [e]
      exact tailAny F T tail n (fuel + 1) listed _ w ht (Nat.le_refl _) (by omega) hl hx hc (hQ w q hB (hq (hall p M.lt)))
    · refine ⟨fun hr => absurd (all_listed F hl hr n hnl) (hn n (Nat.le_refl _)), fun i hi => ?_⟩
      obtain ⟨h0, o, ho, hall0⟩ := mem_ready.1 hi
      have hlt : i < listed.size := by rw [hl]; exact (Array.getElem?_eq_some_iff.1 ho).1
      have hif : listed[i]? = some false := by
        rw [Array.getElem?_eq_getElem hlt]
        rw [Array.getD_eq_getD_getElem?, Array.getElem?_eq_getElem hlt] at h0
        have h0 : listed[i] = false := h0
        rw [h0]
      have hall' : ∀ e ∈ o.after, Region.binds .any e = true → listed[e.on]? = some true := fun e he hbd => by
        have h1 := hall0 e he hbd
        rw [Array.getD_eq_getD_getElem?] at h1
        cases hq : listed[e.on]? with
        | none => rw [hq] at h1; cases h1
        | some q => rw [hq] at h1; exact congrArg some h1
      have hin : i < n := by
        apply Decidable.byContradiction
        intro hge
        rcases Nat.lt_or_ge n i with h | h
        · obtain ⟨e, he, hb, hon⟩ := T.behind i o h ho
          exact hn e.on (by omega) (hall' e he hb)
        · have hie : i = n := by omega
          subst hie
          refine hall ?_
          have : ∀ m j : Nat, j < i → i - j ≤ m → listed[j]? = some true := by
            intro m
            induction m with
            | zero => intro j hj hm; omega
            | succ m ihm =>
              intro j hj hm
              obtain ⟨j2, y, h1, h2, hy, e, he, hb, hon⟩ := T.before j hj
              rw [← hon]
              by_cases hj2 : j2 = i
              · subst hj2
                rw [ho] at hy
                cases hy
                exact hall' e he hb
              · exact hcl j2 y hy (ihm j2 (by omega) (by omega)) e he hb
          exact fun j hj => this i j hj (by omega)
      have hlist : ∀ k : Nat, (listed.setIfInBounds i true)[k]? = some true ↔ listed[k]? = some true ∨ k = i := fun k => by
        by_cases hki : k = i
        · subst hki
          simp [hlt]
        · rw [Array.getElem?_setIfInBounds_ne (Ne.symm hki)]
          exact ⟨Or.inl, fun h => h.resolve_right hki⟩
      have next : ∀ (b' : Act) (w' : World), Inv ops a0 V W p R (listed.setIfInBounds i true) b' w' → wpAny P .any ops Q fuel (listed.setIfInBounds i true) b' w' := fun b' w' hI' => ih _ _ w' (by simp [hl]) (by
        have := count_set (l := listed.toList) (i := i) (by rw [Array.getElem?_toList]; exact hif)
        rw [Array.toList_setIfInBounds]
        omega) (fun k hk h => by
          rcases (hlist k).1 h with h | h
          · exact hn k hk h
          · omega) hI' (fun k y hy hk e he hbd => (hlist _).2 (Or.inl (by
          rcases (hlist k).1 hk with hk | rfl
          · exact hcl k y hy hk e he hbd
          · rw [ho] at hy
            cases hy
            exact hall' e he hbd)))
      obtain ⟨q, hA, hB, hq⟩ := hI
      obtain ⟨c, hcA, hv⟩ := hT i o hin ho
      have hne : dp ∉ o.looksAt ops := M.look i o hin ho
      have sm : ∀ t ∈ o.looksAt ops, b.tmps[t]? = c.tmps[t]? := fun t ht => Dnw.same F hA hcA ho hall' (fun e he hbd => F.back i o ho e he hbd) (fun k y hy ⟨e, he, hbd, hon⟩ hk => by
        have := hcl k y hy hk e he hbd
        rw [hon, hif] at this
        cases this) (fun k y hy ⟨e, he, hbd, hon⟩ hk => by
        have := F.back k y hy e he hbd
        omega) t ht fun k y hy hyd => by
          rw [Dnw.vq, if_neg]
          intro hkp
          subst hkp
          rw [hp] at hy
          cases hy
          rw [hpd] at hyd
          cases hyd
          exact hne ht
      rcases hv with ⟨hip, hv, hg, hm⟩ | ⟨hip, hv⟩
      · -- the maker
        subst hip
        rw [hp] at ho
        cases ho
        unfold Go.wpOp
        simp only [hp]
        rw [if_pos (by simp [Region.wanted, hg])]
        refine .inl ?_
        have hex := exec_same (fun cs b => F.sel i op cs b hp) sm
        obtain ⟨q2, w2, hr, hb2, hq2⟩ := hm w hB
        unfold Oper.wp
        rw [hex, hr]
        refine next _ _ ⟨q2, ?_, hB.trans (hb2.mono hB.size), fun _ => hq2⟩
        have hA1 : At ops a0 (Dnw.vq V i q2) (fun k => listed[k]? = some true) b := hA.to fun k hk => by
          have hki : k ≠ i := fun h => by subst h; rw [hif] at hk; cases hk
          rw [Dnw.vq, Dnw.vq, if_neg hki, if_neg hki]
        have := hA1.step F (E := fun k => (listed.setIfInBounds i true)[k]? = some true) hp hlist
        rw [show Dnw.vq V i q2 i = q2 from if_pos rfl] at this
        exact this
      · refine (hv.of_same (exec_same (fun cs b => F.sel i o cs b ho) sm) (wanted_same sm)).wpOp ho hB fun w' hw' => next _ _ ⟨q, ?_, hB.trans (hw'.mono hB.size), fun h => ?_⟩
        · have := hA.step F (E := fun k => (listed.setIfInBounds i true)[k]? = some true) ho hlist
          rw [show Dnw.vq V p q i = V i from if_neg hip] at this
          exact this
        · rw [Array.getElem?_setIfInBounds_ne hip] at h
          exact hR _ _ _ (hq h) hw'
/-- the beginning: p makes the value, the operations from n on come behind all others -/
theorem wp_region_tail {id : Nat} {a : Act} {w : World} {l : List Oper} (p n : Nat) (dp : Tmp) (R : Value → World → Prop) (hm : P.follows .mixedOrders = true) (hb : detB .any l.toArray = true) (hT : tailB n l.toArray = true) (hM : makeB p n dp l.toArray = true) (hR : ∀ q w w', R q w → Below w.heap.size w w' → R q w') (hdp : dp < a.tmps.size)
    (h : wpDet P l.toArray Q w p dp R (l.drop n) 0 (l.take n) a) : (Code.region id l.toArray true).wp P Q a w := by
  have F := fit_of hb
  have T := tl_of hT
  have M := mk_of hM
  have hl : l = l.take n ++ l.drop n := (List.take_append_drop n l).symm
  obtain ⟨V, af, _, g2, g3, g4⟩ := ends F a (Nat.le_of_lt T.lt) (by simp) (l.take n) 0 a (fun _ => undef) (Nat.zero_le _) (by simp) ⟨rfl, rfl, fun t _ => rfl, fun i y d hi => absurd hi (by omega)⟩ h
  have no : ∀ k : Nat, (Array.replicate l.toArray.size false)[k]? ≠ some true := fun k hk => by
    rw [Array.getElem?_replicate] at hk
    split at hk
    · cases hk
    · cases hk
  exact wp_region_any hm (anyOrder F T M hR rfl hdp g2 g3 (fun j o hj ho => g4 j o (Nat.zero_le _) hj ho) _ _ _ _ (by simp) (by simp) (fun i _ => no i) ⟨undef, ⟨rfl, rfl, fun t _ => rfl, fun i y d hi => absurd hi (no i)⟩, bq_drew (bq_refl w), fun h => absurd h (no p)⟩ (fun k y hy hk => absurd hk (no k)))
/-- the steps -/
theorem dp_take {k : Nat} {rest : List Oper} {o : Oper} {a : Act} {v : Value} (h1 : k ≠ p) (hw : Region.wanted o (yielded ops a.tmps) = true) (hv : ∀ w, Below W.heap.size W w → (execOp a.eval o).run P w = .ok (.value v) w) (h : wpDet P ops Q W p dp R tail (k + 1) rest (a.put o.dst v)) : wpDet P ops Q W p dp R tail k (o :: rest) a :=
  .inr ⟨h1, v, .inl ⟨hw, fun w hS => .inl ⟨w, hv w hS, bq_refl w⟩⟩, h⟩
theorem dp_skip {k : Nat} {rest : List Oper} {o : Oper} {a : Act} (h1 : k ≠ p) (hw : Region.wanted o (yielded ops a.tmps) = false) (h : wpDet P ops Q W p dp R tail (k + 1) rest (a.put o.dst undef)) : wpDet P ops Q W p dp R tail k (o :: rest) a :=
  .inr ⟨h1, undef, .inr ⟨hw, rfl⟩, h⟩
theorem dp_call {k : Nat} {rest : List Oper} {o : Oper} {a : Act} {f : FuncId} {args : Array Value} {v : Value} (h1 : k ≠ p) (hw : Region.wanted o (yielded ops a.tmps) = true) (hr : ∀ w, Below W.heap.size W w → (execOp a.eval o).run P w = .ok (.enter f args) w)
    (hc : ∀ w, Below W.heap.size W w → Calls P f args w fun e w' => e = .returned v ∧ Below w.heap.size w w') (h : wpDet P ops Q W p dp R tail (k + 1) rest (a.put o.dst v)) : wpDet P ops Q W p dp R tail k (o :: rest) a :=
  .inr ⟨h1, v, .inl ⟨hw, fun w hS => .inr ⟨f, args, w, hr w hS, hc w hS⟩⟩, h⟩
theorem dp_load {k : Nat} {rest : List Oper} {o : Oper} {a : Act} (h1 : k ≠ p) (ty : TypeId) (m : Nat) (d : TypeDesc) (hu : P.underlying ty = some d) (hd : (match d with | .struct _ | .array _ _ => true | _ => false) = true) (hi : (P.info? ty).map (·.size) = some m)
    (x : Operand) (ho : o.op = .load ty x) (hw : Region.wanted o (yielded ops a.tmps) = true) (b : Nat) (hx : a.eval x = .pointer (some ⟨b, 0, none⟩)) (cells : Array Value) (t : TypeId) (hB : ∀ w, Below W.heap.size W w → Blk w b cells t) (hn : cells.size = m)
    (h : wpDet P ops Q W p dp R tail (k + 1) rest (a.put o.dst (.agg cells))) : wpDet P ops Q W p dp R tail k (o :: rest) a := by
  refine dp_take h1 hw (fun w hS => ?_) h
  have hr := run_loadVar_row (P := P) w b t ty cells (0, 0) d (hB w hS) hu hd (by rw [hi, hn])
  unfold execOp
  simp only [ho, hx, Instr.loadAt, Instr.sureAddr, Sem.run_bind, Sem.run_pure, Result.andThen_ok, hr]
theorem dp_make {k : Nat} {rest : List Oper} {o : Oper} {a : Act} (h1 : k = p) (hg : o.guard = none) (hm : ∀ w, Below W.heap.size W w → ∃ q w', (execOp a.eval o).run P w = .ok (.value q) w' ∧ Below w.heap.size w w' ∧ R q w') (h : wpDet P ops Q W p dp R tail (k + 1) rest (a.put o.dst undef)) : wpDet P ops Q W p dp R tail k (o :: rest) a :=
  .inl ⟨h1, ⟨hg, hm⟩, h⟩
theorem dp_nil {k : Nat} {a : Act} (h : ∀ w q, Below W.heap.size W w → R q w → wpList P ops Q tail (a.put (some dp) q) w) : wpDet P ops Q W p dp R tail k [] a := h
/-- a row of one element, new -/
def One (W : World) (cs : Array Value) (T : TypeId) (q : Value) (w : World) : Prop := ∃ g, q = .slice (some ⟨g, 0, none⟩) 1 1 ∧ W.heap.size ≤ g ∧ Blk w g cs T
theorem one_lasts (W : World) (cs : Array Value) (T : TypeId) : ∀ q w w', One W cs T q w → Below w.heap.size w w' → One W cs T q w' := fun q w w' ⟨g, h1, h2, h3⟩ hb => ⟨g, h1, h2, h3.keep hb⟩
theorem one_made {P : Program} {w W : World} (hB : Below W.heap.size W w) (cs : Array Value) (T : TypeId) : Below w.heap.size w (w.alloc (.cells cs T)) ∧ One W cs T (.slice (some ⟨w.heap.size, 0, none⟩) 1 1) (w.alloc (.cells cs T)) :=
  ⟨bq_alloc (bq_refl w) _, w.heap.size, rfl, hB.size, blk_new w cs T⟩
theorem dp_slice {k : Nat} {rest : List Oper} {o : Oper} {a : Act} (t e : TypeId) (cs : Array Value) (ps : List (Nat × Value)) (hr : ∀ w : World, (Instr.buildSlice t 1 ps.toArray).run P w = .ok (.slice (some ⟨w.heap.size, 0, none⟩) 1 1) (w.alloc (.cells cs e))) (h1 : k = p) (hg : o.guard = none)
    (parts : Array (Nat × Operand)) (ho : o.op = .buildSlice t 1 parts) (hps : (parts.toList.map fun (i, x) => (i, a.eval x)) = ps) (h : wpDet P ops Q W p dp (One W cs e) tail (k + 1) rest (a.put o.dst undef)) : wpDet P ops Q W p dp (One W cs e) tail k (o :: rest) a := by
  refine dp_make h1 hg (fun w hS => ?_) h
  obtain ⟨g1, g2⟩ := one_made (P := P) hS cs e
  refine ⟨_, _, ?_, g1, g2⟩
  have e1 : (parts.map fun (i, x) => (i, a.eval x)) = ps.toArray := by rw [← hps, ← Array.toList_map, Array.toArray_toList]
  unfold execOp
  simp only [ho, Sem.run_bind, e1, hr w, Result.andThen_ok]
  rfl
theorem dp_one {k : Nat} {a : Act} {cs : Array Value} {e : TypeId} (h : ∀ w g, Blk w g cs e → W.heap.size ≤ g → Below W.heap.size W w → wpList P ops Q tail (a.put (some dp) (.slice (some ⟨g, 0, none⟩) 1 1)) w) : wpDet P ops Q W p dp (One W cs e) tail k [] a :=
  dp_nil fun w q h1 h2 => by
    obtain ⟨g, rfl, h3, h4⟩ := h2
    exact h w g h4 h3 h1
end
end Go.Proofs.Ytpeknlablcgchaa.Dap
