import Derived.Test.YtgopaajmbifbaaaZK10
import Derived.Test.YtgopaajmbifbaaaZK2
namespace Go.Proofs.Ytgopaajmbifbaaa.Dap
open Go Go.RowKit Det
set_option linter.unusedVariables false
def Makes (P : Program) (W : World) (R : Value → World → Prop) (o : Oper) (a : Act) : Prop :=
  o.guard = none ∧ ∀ w, Below W.heap.size W w → ∃ q w', (execOp a.eval o).run P w = .ok (.value q) w' ∧ Below w.heap.size w w' ∧ R q w'
def wpDet (P : Program) (ops : Array Oper) (Q : Exit → Act → World → Prop) (W : World) (p : Nat) (dp : Tmp) (R : Value → World → Prop) (tail : List Oper) : Nat → List Oper → Act → Prop
  | _, [], a => ∀ w q, Below W.heap.size W w → R q w → wpList P ops Q tail (a.put (some dp) q) w
  | k, o :: rest, a => (k = p ∧ Makes P W R o a ∧ wpDet P ops Q W p dp R tail (k + 1) rest (a.put o.dst undef)) ∨
    (k ≠ p ∧ ∃ v, Dnw.Tells P ops W o v a ∧ wpDet P ops Q W p dp R tail (k + 1) rest (a.put o.dst v))
def tailB (n : Nat) (ops : Array Oper) : Bool :=
  decide (n < ops.size) && ((List.range n).all fun i => (List.range (n + 1)).any fun j => decide (i < j) && match ops[j]? with
    | none => false
    | some y => y.after.any fun e => Region.binds .any e && e.on == i) &&
  (List.range ops.size).all fun i => decide (i ≤ n) || match ops[i]? with
    | none => false
    | some y => y.after.any fun e => Region.binds .any e && e.on + 1 == i
def makeB (p n : Nat) (dp : Tmp) (ops : Array Oper) : Bool :=
  decide (p < n) && (match ops[p]? with | none => false | some o => o.dst == some dp) && (List.range n).all fun i => match ops[i]? with | none => true | some x => !(x.looksAt ops).contains dp
structure Mk (p n : Nat) (dp : Tmp) (ops : Array Oper) : Prop where
  lt : p < n
  dst : ∃ o, ops[p]? = some o ∧ o.dst = some dp
  look : ∀ (i : Nat) (o : Oper), i < n → ops[i]? = some o → dp ∉ o.looksAt ops
structure Tl (n : Nat) (ops : Array Oper) : Prop where
  lt : n < ops.size
  before : ∀ i, i < n → ∃ j y, i < j ∧ j ≤ n ∧ ops[j]? = some y ∧ ∃ e ∈ y.after, Region.binds .any e = true ∧ e.on = i
  behind : ∀ (i : Nat) (y : Oper), n < i → ops[i]? = some y → ∃ e ∈ y.after, Region.binds .any e = true ∧ e.on + 1 = i
theorem tl_of {n : Nat} {ops : Array Oper} (h : tailB n ops = true) : Tl n ops := by
  unfold tailB at h
  rw [Bool.and_eq_true, Bool.and_eq_true, decide_eq_true_eq, List.all_eq_true, List.all_eq_true] at h
  obtain ⟨⟨h1, h2⟩, h3⟩ := h
  refine ⟨h1, fun i hi => ?_, fun i y hi hy => ?_⟩
  · have h4 := h2 i (List.mem_range.2 hi)
    rw [List.any_eq_true] at h4
    obtain ⟨j, hj, h5⟩ := h4
    rw [Bool.and_eq_true, decide_eq_true_eq] at h5
    obtain ⟨hij, h5⟩ := h5
    have hjn := List.mem_range.1 hj
    cases hy : ops[j]? with
    | none => rw [hy] at h5; cases h5
    | some y =>
      rw [hy] at h5
      obtain ⟨e, he, hb⟩ := Array.any_eq_true'.1 h5
      simp only [Bool.and_eq_true, beq_iff_eq] at hb
      exact ⟨j, y, hij, by omega, hy, e, he, hb.1, hb.2⟩
  · have h4 := h3 i (List.mem_range.2 (Array.getElem?_eq_some_iff.1 hy).1)
    rw [Bool.or_eq_true, decide_eq_true_eq] at h4
    rcases h4 with h4 | h4
    · omega
    · rw [hy] at h4
      obtain ⟨e, he, hb⟩ := Array.any_eq_true'.1 h4
      simp only [Bool.and_eq_true, beq_iff_eq] at hb
      exact ⟨e, he, hb.1, hb.2⟩
section
variable {P : Program} {ops : Array Oper} {Q : Exit → Act → World → Prop} {W : World} {p n : Nat} {dp : Tmp} {R : Value → World → Prop} {tail : List Oper}
def Step (P : Program) (ops : Array Oper) (W : World) (p : Nat) (R : Value → World → Prop) (j : Nat) (o : Oper) (v : Value) (c : Act) : Prop :=
  (j = p ∧ v = undef ∧ Makes P W R o c) ∨ (j ≠ p ∧ Dnw.Tells P ops W o v c)
theorem ends (F : Fit .any ops) (a0 : Act) (hn : n ≤ ops.size) (htl : tail.length = ops.size - n) : ∀ (l : List Oper) (k : Nat) (a : Act) (V0 : Nat → Value), k ≤ ops.size → ops.toList.drop k = l ++ tail → At ops a0 V0 (· < k) a → wpDet P ops Q W p dp R tail k l a →
    ∃ (V : Nat → Value) (af : Act), (∀ i, i < k → V i = V0 i) ∧ (∀ w q, Below W.heap.size W w → R q w → wpList P ops Q tail (af.put (some dp) q) w) ∧ At ops a0 V (· < n) af ∧
      ∀ j o, k ≤ j → j < n → ops[j]? = some o → ∃ c, At ops a0 V (· < j) c ∧ Step P ops W p R j o (V j) c := by
  intro l
  induction l with
  | nil =>
    intro k a V0 hk hl hA h
    have h1 : k = n := by
      have := congrArg List.length hl
      simp at this
      omega
    subst h1
    exact ⟨V0, a, fun _ _ => rfl, h, hA, fun j o hj hj2 _ => by omega⟩
  | cons o l ih =>
    intro k a V0 hk0 hl hA h
    have hk : ops[k]? = some o := by
      have := congrArg List.head? hl
      simpa [List.head?_drop] using this
    have hkl := (Array.getElem?_eq_some_iff.1 hk).1
    have hl' : ops.toList.drop (k + 1) = l ++ tail := by
      rw [← List.drop_drop, hl]; rfl
    have key : ∀ v : Value, Step P ops W p R k o v a → wpDet P ops Q W p dp R tail (k + 1) l (a.put o.dst v) → ∃ (V : Nat → Value) (af : Act), (∀ i, i < k → V i = V0 i) ∧ (∀ w q, Below W.heap.size W w → R q w → wpList P ops Q tail (af.put (some dp) q) w) ∧ At ops a0 V (· < n) af ∧
        ∀ j o, k ≤ j → j < n → ops[j]? = some o → ∃ c, At ops a0 V (· < j) c ∧ Step P ops W p R j o (V j) c := by
      intro v hv hrest
      have hA1 : At ops a0 (fun i => if i = k then v else V0 i) (· < k) a := hA.to fun i hi => (if_neg (by omega)).symm
      have hA2 := hA1.step F (E := (· < k + 1)) hk (fun i => by omega)
      have ek : (if k = k then v else V0 k) = v := if_pos rfl
      rw [ek] at hA2
      obtain ⟨V, af, g1, g2, g3, g4⟩ := ih (k + 1) _ _ (by omega) hl' hA2 hrest
      have hVk : V k = v := (g1 k (by omega)).trans ek
      refine ⟨V, af, fun i hi => (g1 i (by omega)).trans (if_neg (by omega)), g2, g3, fun j y hj hj2 hy => ?_⟩
      by_cases hjk : j = k
      · subst hjk
        rw [hk] at hy
        cases hy
        exact ⟨a, hA1.to fun i hi => (g1 i (by omega)).symm, by rw [hVk]; exact hv⟩
      · exact g4 j y (by omega) hj2 hy
    rcases h with ⟨h1, h2, h3⟩ | ⟨h1, v, h3, h4⟩
    · exact key undef (.inl ⟨h1, rfl, h2⟩) h3
    · exact key v (.inr ⟨h1, h3⟩) h4
theorem tailAny (F : Fit .any ops) (T : Tl n ops) : ∀ (l : List Oper) (k fuel : Nat) (listed : Array Bool) (a : Act) (w : World), ops.toList.drop k = l → n ≤ k → k ≤ ops.size → listed.size = ops.size → (∀ i : Nat, listed[i]? = some true ↔ i < k) → listed.toList.count false ≤ fuel → wpList P ops Q l a w → wpAny P .any ops Q fuel listed a w := by
  intro l
  induction l with
  | nil =>
    intro k fuel listed a w hl hnk hk hs hx hc h
    have hks : k = ops.size := by
      have := congrArg List.length hl
      simp at this
      omega
    have hr : Region.ready .any ops listed = [] := none_ready fun j hj => (hx j).2 (by omega)
    cases fuel with
    | zero => exact ⟨hr, h⟩
    | succ fuel => exact ⟨fun _ => h, fun j hj => by rw [hr] at hj; cases hj⟩
  | cons o l ih =>
    intro k fuel listed a w hl hnk hk hs hx hc h
    have hok : ops[k]? = some o := by
      have := congrArg List.head? hl
      simpa [List.head?_drop] using this
    have hkl := (Array.getElem?_eq_some_iff.1 hok).1
    have hl' : ops.toList.drop (k + 1) = l := by
      rw [← List.drop_drop, hl]; rfl
    have hkf : listed[k]? = some false := by
      have h2 : k < listed.size := by omega
      have h1 : listed[k]? ≠ some true := fun h => by have := (hx k).1 h; omega
      rw [Array.getElem?_eq_getElem h2] at h1 ⊢
      cases hq : listed[k] with
      | true => rw [hq] at h1; exact absurd rfl h1
      | false => rfl
    have hpos : 0 < listed.toList.count false := List.count_pos_iff.2 (by
      have hlt := Array.getElem?_eq_some_iff.1 hkf
      rw [← hlt.2]
      exact Array.getElem_mem_toList hlt.1)
    cases fuel with
    | zero => omega
    | succ fuel =>
      have hlist : ∀ i : Nat, (listed.setIfInBounds k true)[i]? = some true ↔ i < k + 1 := fun i => by
        by_cases hki : i = k
        · subst hki
          have : i < listed.size := by omega
          simp [this]
        · rw [Array.getElem?_setIfInBounds_ne (Ne.symm hki), hx i]
          omega
      refine ⟨fun hr => ?_, fun i hi => ?_⟩
      · exfalso
        -- k is ready
        have : k ∈ Region.ready .any ops listed := mem_ready.2 ⟨by rw [Array.getD_eq_getD_getElem?, hkf]; rfl, o, hok, fun e he hb => by
          have := (hx e.on).2 ?_
          · rw [Array.getD_eq_getD_getElem?, this]; rfl
          · exact F.back k o hok e he hb⟩
        rw [hr] at this
        cases this
      · obtain ⟨h0, y, hy, hall⟩ := mem_ready.1 hi
        have hilt : i < listed.size := by rw [hs]; exact (Array.getElem?_eq_some_iff.1 hy).1
        have hik : k ≤ i := by
          apply Decidable.byContradiction
          intro hlt
          have := (hx i).2 (by omega)
          rw [Array.getD_eq_getD_getElem?, this] at h0
          cases h0
        have hie : i = k := by
          apply Decidable.byContradiction
          intro hne
          obtain ⟨e, he, hb, hon⟩ := T.behind i y (by omega) hy
          have h1 := hall e he hb
          rw [Array.getD_eq_getD_getElem?] at h1
          have h2 : listed[e.on]? = some true := by
            cases hq : listed[e.on]? with
            | none => rw [hq] at h1; cases h1
            | some q => rw [hq] at h1; exact congrArg some h1
          have := (hx e.on).1 h2
          omega
        subst hie
        rw [hok] at hy
        cases hy
        have next : ∀ (b : Act) (w : World), wpList P ops Q l b w → wpAny P .any ops Q fuel (listed.setIfInBounds i true) b w := fun b w hb => ih (i + 1) fuel _ b w hl' (by omega) (by omega) (by simp [hs]) hlist (by
          have := count_set (l := listed.toList) (i := i) (by rw [Array.getElem?_toList]; exact hkf)
          rw [Array.toList_setIfInBounds]
          omega) hb
        unfold wpList at h
        unfold Go.wpOp
        simp only [hok]
        split
        · rename_i hwn
          rw [if_pos hwn] at h
          exact h.imp (Oper.wp_mono fun a w h => next a w h) id
        · rename_i hwn
          rw [if_neg hwn] at h
          exact next _ _ h
def Inv (ops : Array Oper) (a0 : Act) (V : Nat → Value) (W : World) (p : Nat) (R : Value → World → Prop) (listed : Array Bool) (b : Act) (w : World) : Prop :=
  ∃ q : Value, At ops a0 (Dnw.vq V p q) (fun i => listed[i]? = some true) b ∧ Below W.heap.size W w ∧ (listed[p]? = some true → R q w)
theorem anyOrder (F : Fit .any ops) (T : Tl n ops) (M : Mk p n dp ops) (hR : ∀ q w w', R q w → Below w.heap.size w w' → R q w') (ht : ops.toList.drop n = tail) {a0 af : Act} {V : Nat → Value} (hdp : dp < a0.tmps.size)
    (hQ : ∀ w q, Below W.heap.size W w → R q w → wpList P ops Q tail (af.put (some dp) q) w) (hf : At ops a0 V (· < n) af)
    (hT : ∀ (j : Nat) (o : Oper), j < n → ops[j]? = some o → ∃ c, At ops a0 V (· < j) c ∧ Step P ops W p R j o (V j) c) :
    ∀ (fuel : Nat) (listed : Array Bool) (b : Act) (w : World), listed.size = ops.size → listed.toList.count false ≤ fuel → (∀ i, n ≤ i → listed[i]? ≠ some true) → Inv ops a0 V W p R listed b w →
      (∀ (j : Nat) (o : Oper), ops[j]? = some o → listed[j]? = some true → ∀ e ∈ o.after, Region.binds .any e = true → listed[e.on]? = some true) → wpAny P .any ops Q fuel listed b w := by
  obtain ⟨op, hp, hpd⟩ := M.dst
  have hnl := T.lt
  intro fuel
  induction fuel with
  | zero =>
    intro listed b w hl hc hn hI hcl
    have h2 : n < listed.size := by omega
    have h1 := hn n (Nat.le_refl _)
    rw [Array.getElem?_eq_getElem h2] at h1
    have : false ∈ listed.toList := by
      cases hq : listed[n] with
      | true => rw [hq] at h1; exact absurd rfl h1
      | false => rw [← hq]; exact Array.getElem_mem_toList h2
    have := List.count_pos_iff.2 this
    omega
  | succ fuel ih =>
    intro listed b w hl hc hn hI hcl
    by_cases hall : ∀ i : Nat, i < n → listed[i]? = some true
    · -- the last ones
      have hx : ∀ i : Nat, listed[i]? = some true ↔ i < n := fun i => ⟨fun h => by
        apply Decidable.byContradiction
        intro h2
        exact hn i (by omega) h, hall i⟩
      obtain ⟨q, hA, hB, hq⟩ := hI
      have hA2 : At ops a0 (Dnw.vq V p q) (· < n) b := hA.iff hx
      have e : b = af.put (some dp) q := by
        have ht2 : b.tmps = (af.put (some dp) q).tmps := Array.ext_getElem? fun t => by
          by_cases htd : dp = t
          · subst htd
            rw [put_at (by rw [hf.size]; exact hdp), hA2.told p op dp M.lt hp hpd hdp, Dnw.vq, if_pos rfl]
          · rw [put_get (by simpa using htd)]
            by_cases hw : ∃ (i : Nat) (y : Oper), i < n ∧ ops[i]? = some y ∧ y.dst = some t
            · obtain ⟨i, y, hin, hy, hyd⟩ := hw
              by_cases hsz : t < a0.tmps.size
              · rw [hA2.told i y t hin hy hyd hsz, hf.told i y t hin hy hyd hsz, Dnw.vq, if_neg]
                intro hip
                subst hip
                rw [hp] at hy
                cases hy
                rw [hpd] at hyd
                cases hyd
                exact htd rfl
              · rw [Array.getElem?_eq_none (by rw [hA2.size]; exact Nat.le_of_not_lt hsz), Array.getElem?_eq_none (by rw [hf.size]; exact Nat.le_of_not_lt hsz)]
            · rw [hA2.old t fun i y hi hy hyt => hw ⟨i, y, hi, hy, hyt⟩, hf.old t fun i y hi hy hyt => hw ⟨i, y, hi, hy, hyt⟩]
        have hd := (hA2.defers.trans hf.defers.symm).trans (put_df af (some dp) q).symm
        generalize af.put (some dp) q = c at ht2 hd ⊢
        cases b; cases c
        simp only at ht2 hd
        rw [ht2, hd]
      rw [e]
      exact tailAny F T tail n (fuel + 1) listed _ w ht (Nat.le_refl _) (by omega) hl hx hc (hQ w q hB (hq (hall p M.lt)))
    · refine ⟨fun hr => absurd (all_listed F hl hr n hnl) (hn n (Nat.le_refl _)), fun i hi => ?_⟩
      obtain ⟨h0, o, ho, hall0⟩ := mem_ready.1 hi
      have hlt : i < listed.size := by rw [hl]; exact (Array.getElem?_eq_some_iff.1 ho).1
      have hif : listed[i]? = some false := by
        rw [Array.getElem?_eq_getElem hlt]
        rw [Array.getD_eq_getD_getElem?, Array.getElem?_eq_getElem hlt] at h0
        have h0 : listed[i] = false := h0
        rw [h0]
      have hall' : ∀ e ∈ o.after, Region.binds .any e = true → listed[e.on]? = some true := fun e he hbd => by
        have h1 := hall0 e he hbd
        rw [Array.getD_eq_getD_getElem?] at h1
        cases hq : listed[e.on]? with
        | none => rw [hq] at h1; cases h1
        | some q => rw [hq] at h1; exact congrArg some h1
      have hin : i < n := by
        apply Decidable.byContradiction
        intro hge
        rcases Nat.lt_or_ge n i with h | h
        · obtain ⟨e, he, hb, hon⟩ := T.behind i o h ho
          exact hn e.on (by omega) (hall' e he hb)
        · have hie : i = n := by omega
          subst hie
          refine hall ?_
          have : ∀ m j : Nat, j < i → i - j ≤ m → listed[j]? = some true := by
            intro m
            induction m with
            | zero => intro j hj hm; omega
            | succ m ihm =>
              intro j hj hm
              obtain ⟨j2, y, h1, h2, hy, e, he, hb, hon⟩ := T.before j hj
              rw [← hon]
              by_cases hj2 : j2 = i
              · subst hj2
                rw [ho] at hy
                cases hy
                exact hall' e he hb
              · exact hcl j2 y hy (ihm j2 (by omega) (by omega)) e he hb
          exact fun j hj => this i j hj (by omega)
      have hlist : ∀ k : Nat, (listed.setIfInBounds i true)[k]? = some true ↔ listed[k]? = some true ∨ k = i := fun k => by
        by_cases hki : k = i
        · subst hki
          simp [hlt]
        · rw [Array.getElem?_setIfInBounds_ne (Ne.symm hki)]
          exact ⟨Or.inl, fun h => h.resolve_right hki⟩
      have next : ∀ (b' : Act) (w' : World), Inv ops a0 V W p R (listed.setIfInBounds i true) b' w' → wpAny P .any ops Q fuel (listed.setIfInBounds i true) b' w' := fun b' w' hI' => ih _ _ w' (by simp [hl]) (by
        have := count_set (l := listed.toList) (i := i) (by rw [Array.getElem?_toList]; exact hif)
        rw [Array.toList_setIfInBounds]
        omega) (fun k hk h => by
          rcases (hlist k).1 h with h | h
          · exact hn k hk h
          · omega) hI' (fun k y hy hk e he hbd => (hlist _).2 (Or.inl (by
          rcases (hlist k).1 hk with hk | rfl
          · exact hcl k y hy hk e he hbd
          · rw [ho] at hy
            cases hy
            exact hall' e he hbd)))
      obtain ⟨q, hA, hB, hq⟩ := hI
      obtain ⟨c, hcA, hv⟩ := hT i o hin ho
      have hne : dp ∉ o.looksAt ops := M.look i o hin ho
      have sm : ∀ t ∈ o.looksAt ops, b.tmps[t]? = c.tmps[t]? := fun t ht => Dnw.same F hA hcA ho hall' (fun e he hbd => F.back i o ho e he hbd) (fun k y hy ⟨e, he, hbd, hon⟩ hk => by
        have := hcl k y hy hk e he hbd
        rw [hon, hif] at this
        cases this) (fun k y hy ⟨e, he, hbd, hon⟩ hk => by
        have := F.back k y hy e he hbd
        omega) t ht fun k y hy hyd => by
          rw [Dnw.vq, if_neg]
          intro hkp
          subst hkp
          rw [hp] at hy
          cases hy
          rw [hpd] at hyd
          cases hyd
          exact hne ht
      rcases hv with ⟨hip, hv, hg, hm⟩ | ⟨hip, hv⟩
      · -- the maker
        subst hip
        rw [hp] at ho
        cases ho
        unfold Go.wpOp
        simp only [hp]
        rw [if_pos (by simp [Region.wanted, hg])]
        refine .inl ?_
        have hex := exec_same (fun cs b => F.sel i op cs b hp) sm
        obtain ⟨q2, w2, hr, hb2, hq2⟩ := hm w hB
        unfold Oper.wp
        rw [hex, hr]
        refine next _ _ ⟨q2, ?_, hB.trans (hb2.mono hB.size), fun _ => hq2⟩
        have hA1 : At ops a0 (Dnw.vq V i q2) (fun k => listed[k]? = some true) b := hA.to fun k hk => by
          have hki : k ≠ i := fun h => by subst h; rw [hif] at hk; cases hk
          rw [Dnw.vq, Dnw.vq, if_neg hki, if_neg hki]
        have := hA1.step F (E := fun k => (listed.setIfInBounds i true)[k]? = some true) hp hlist
        rw [show Dnw.vq V i q2 i = q2 from if_pos rfl] at this
        exact this
      · refine (hv.of_same (exec_same (fun cs b => F.sel i o cs b ho) sm) (wanted_same sm)).wpOp ho hB fun w' hw' => next _ _ ⟨q, ?_, hB.trans (hw'.mono hB.size), fun h => ?_⟩
        · have := hA.step F (E := fun k => (listed.setIfInBounds i true)[k]? = some true) ho hlist
          rw [show Dnw.vq V p q i = V i from if_neg hip] at this
          exact this
        · rw [Array.getElem?_setIfInBounds_ne hip] at h
          exact hR _ _ _ (hq h) hw'
def One (W : World) (cs : Array Value) (T : TypeId) (q : Value) (w : World) : Prop := ∃ g, q = .slice (some ⟨g, 0, none⟩) 1 1 ∧ W.heap.size ≤ g ∧ Blk w g cs T
end
end Go.Proofs.Ytgopaajmbifbaaa.Dap
namespace Go.Proofs.Ytgopaajmbifbaaa.Dsl
open Go Go.RowKit Det
set_option linter.unusedVariables false
def waitsB (ops : Array Oper) (p k : Nat) : Bool := match ops[p]? with
  | none => false
  | some o => o.after.any fun e => Region.binds .any e && e.on == k
def Stores (P : Program) (S : Bool → World → Prop) (o : Oper) (a : Act) : Prop :=
  o.guard = none ∧ o.dst = none ∧ ∀ w, S false w → ∃ w', (execOp a.eval o).run P w = .ok .skip w' ∧ S true w'
def Tell2 (P : Program) (ops : Array Oper) (S : Bool → World → Prop) (p k : Nat) (o : Oper) (v : Value) (a : Act) : Prop :=
  (waitsB ops p k = true ∧ Tells P ops (S false) o v a) ∨ ∀ b, Tells P ops (S b) o v a
def wpDet (P : Program) (ops : Array Oper) (Q : Exit → Act → World → Prop) (S : Bool → World → Prop) (p : Nat) (tail : List Oper) : Nat → List Oper → Act → Prop
  | _, [], a => ∀ w, S true w → wpList P ops Q tail a w
  | k, o :: rest, a => (k = p ∧ Stores P S o a ∧ wpDet P ops Q S p tail (k + 1) rest (a.put o.dst undef)) ∨
    (k ≠ p ∧ ∃ v, Tell2 P ops S p k o v a ∧ wpDet P ops Q S p tail (k + 1) rest (a.put o.dst v))
section
variable {P : Program} {ops : Array Oper} {Q : Exit → Act → World → Prop} {S : Bool → World → Prop} {p n : Nat} {tail : List Oper}
def Step (P : Program) (ops : Array Oper) (S : Bool → World → Prop) (p : Nat) (j : Nat) (o : Oper) (v : Value) (c : Act) : Prop :=
  (j = p ∧ Stores P S o c) ∨ (j ≠ p ∧ Tell2 P ops S p j o v c)
theorem ends (F : Fit .any ops) (a0 : Act) (hn : n ≤ ops.size) (htl : tail.length = ops.size - n) : ∀ (l : List Oper) (k : Nat) (a : Act) (V0 : Nat → Value), k ≤ ops.size → ops.toList.drop k = l ++ tail → At ops a0 V0 (· < k) a → wpDet P ops Q S p tail k l a →
    ∃ (V : Nat → Value) (af : Act), (∀ i, i < k → V i = V0 i) ∧ (∀ w, S true w → wpList P ops Q tail af w) ∧ At ops a0 V (· < n) af ∧
      ∀ j o, k ≤ j → j < n → ops[j]? = some o → ∃ c, At ops a0 V (· < j) c ∧ Step P ops S p j o (V j) c := by
  intro l
  induction l with
  | nil =>
    intro k a V0 hk hl hA h
    have h1 : k = n := by
      have := congrArg List.length hl
      simp at this
      omega
    subst h1
    exact ⟨V0, a, fun _ _ => rfl, h, hA, fun j o hj hj2 _ => by omega⟩
  | cons o l ih =>
    intro k a V0 hk0 hl hA h
    have hk : ops[k]? = some o := by
      have := congrArg List.head? hl
      simpa [List.head?_drop] using this
    have hkl := (Array.getElem?_eq_some_iff.1 hk).1
    have hl' : ops.toList.drop (k + 1) = l ++ tail := by
      rw [← List.drop_drop, hl]; rfl
    have key : ∀ v : Value, Step P ops S p k o v a → wpDet P ops Q S p tail (k + 1) l (a.put o.dst v) → ∃ (V : Nat → Value) (af : Act), (∀ i, i < k → V i = V0 i) ∧ (∀ w, S true w → wpList P ops Q tail af w) ∧ At ops a0 V (· < n) af ∧
        ∀ j o, k ≤ j → j < n → ops[j]? = some o → ∃ c, At ops a0 V (· < j) c ∧ Step P ops S p j o (V j) c := by
      intro v hv hrest
      have hA1 : At ops a0 (fun i => if i = k then v else V0 i) (· < k) a := hA.to fun i hi => (if_neg (by omega)).symm
      have hA2 := hA1.step F (E := (· < k + 1)) hk (fun i => by omega)
      have ek : (if k = k then v else V0 k) = v := if_pos rfl
      rw [ek] at hA2
      obtain ⟨V, af, g1, g2, g3, g4⟩ := ih (k + 1) _ _ (by omega) hl' hA2 hrest
      have hVk : V k = v := (g1 k (by omega)).trans ek
      refine ⟨V, af, fun i hi => (g1 i (by omega)).trans (if_neg (by omega)), g2, g3, fun j y hj hj2 hy => ?_⟩
      by_cases hjk : j = k
      · subst hjk
        rw [hk] at hy
        cases hy
        exact ⟨a, hA1.to fun i hi => (g1 i (by omega)).symm, by rw [hVk]; exact hv⟩
      · exact g4 j y (by omega) hj2 hy
    rcases h with ⟨h1, h2, h3⟩ | ⟨h1, v, h3, h4⟩
    · exact key undef (.inl ⟨h1, h2⟩) h3
    · exact key v (.inr ⟨h1, h3⟩) h4
theorem Stores.of_same {o : Oper} {a a' : Act} (h : Stores P S o a) (he : execOp a'.eval o = execOp a.eval o) : Stores P S o a' := by
  unfold Stores at *
  rw [he]
  exact h
def Inv (ops : Array Oper) (a0 : Act) (V : Nat → Value) (S : Bool → World → Prop) (p : Nat) (listed : Array Bool) (b : Act) (w : World) : Prop :=
  At ops a0 V (fun i => listed[i]? = some true) b ∧ ∃ s, S s w ∧ (s = true ↔ listed[p]? = some true)
theorem anyOrder (F : Fit .any ops) (T : Dap.Tl n ops) (hpn : p < n) (ht : ops.toList.drop n = tail) {a0 af : Act} {V : Nat → Value}
    (hQ : ∀ w, S true w → wpList P ops Q tail af w) (hf : At ops a0 V (· < n) af)
    (hT : ∀ (j : Nat) (o : Oper), j < n → ops[j]? = some o → ∃ c, At ops a0 V (· < j) c ∧ Step P ops S p j o (V j) c) :
    ∀ (fuel : Nat) (listed : Array Bool) (b : Act) (w : World), listed.size = ops.size → listed.toList.count false ≤ fuel → (∀ i, n ≤ i → listed[i]? ≠ some true) → Inv ops a0 V S p listed b w →
      (∀ (j : Nat) (o : Oper), ops[j]? = some o → listed[j]? = some true → ∀ e ∈ o.after, Region.binds .any e = true → listed[e.on]? = some true) → wpAny P .any ops Q fuel listed b w := by
  have hnl := T.lt
  intro fuel
  induction fuel with
  | zero =>
    intro listed b w hl hc hn hI hcl
    have h2 : n < listed.size := by omega
    have h1 := hn n (Nat.le_refl _)
    rw [Array.getElem?_eq_getElem h2] at h1
    have : false ∈ listed.toList := by
      cases hq : listed[n] with
      | true => rw [hq] at h1; exact absurd rfl h1
      | false => rw [← hq]; exact Array.getElem_mem_toList h2
    have := List.count_pos_iff.2 this
    omega
  | succ fuel ih =>
    intro listed b w hl hc hn hI hcl
    obtain ⟨hA, s, hS, hs⟩ := hI
    by_cases hall : ∀ i : Nat, i < n → listed[i]? = some true
    · -- the last ones
      have hx : ∀ i : Nat, listed[i]? = some true ↔ i < n := fun i => ⟨fun h => by
        apply Decidable.byContradiction
        intro h2
        exact hn i (by omega) h, hall i⟩
      obtain rfl : b = af := (hA.iff hx).eq hf
      obtain rfl : s = true := hs.2 (hall p hpn)
      exact Dap.tailAny F T tail n (fuel + 1) listed _ w ht (Nat.le_refl _) (by omega) hl hx hc (hQ w hS)
    · refine ⟨fun hr => absurd (all_listed F hl hr n hnl) (hn n (Nat.le_refl _)), fun i hi => ?_⟩
      obtain ⟨h0, o, ho, hall0⟩ := mem_ready.1 hi
      have hlt : i < listed.size := by rw [hl]; exact (Array.getElem?_eq_some_iff.1 ho).1
      have hif : listed[i]? = some false := by
        rw [Array.getElem?_eq_getElem hlt]
        rw [Array.getD_eq_getD_getElem?, Array.getElem?_eq_getElem hlt] at h0
        have h0 : listed[i] = false := h0
        rw [h0]
      have hall' : ∀ e ∈ o.after, Region.binds .any e = true → listed[e.on]? = some true := fun e he hbd => by
        have h1 := hall0 e he hbd
        rw [Array.getD_eq_getD_getElem?] at h1
        cases hq : listed[e.on]? with
        | none => rw [hq] at h1; cases h1
        | some q => rw [hq] at h1; exact congrArg some h1
      have hin : i < n := by
        apply Decidable.byContradiction
        intro hge
        rcases Nat.lt_or_ge n i with h | h
        · obtain ⟨e, he, hb, hon⟩ := T.behind i o h ho
          exact hn e.on (by omega) (hall' e he hb)
        · have hie : i = n := by omega
          subst hie
          refine hall ?_
          have : ∀ m j : Nat, j < i → i - j ≤ m → listed[j]? = some true := by
            intro m
            induction m with
            | zero => intro j hj hm; omega
            | succ m ihm =>
              intro j hj hm
              obtain ⟨j2, y, h1, h2, hy, e, he, hb, hon⟩ := T.before j hj
              rw [← hon]
              by_cases hj2 : j2 = i
              · subst hj2
                rw [ho] at hy
                cases hy
                exact hall' e he hb
              · exact hcl j2 y hy (ihm j2 (by omega) (by omega)) e he hb
          exact fun j hj => this i j hj (by omega)
      have hlist : ∀ k : Nat, (listed.setIfInBounds i true)[k]? = some true ↔ listed[k]? = some true ∨ k = i := fun k => by
        by_cases hki : k = i
        · subst hki
          simp [hlt]
        · rw [Array.getElem?_setIfInBounds_ne (Ne.symm hki)]
          exact ⟨Or.inl, fun h => h.resolve_right hki⟩
      have next : ∀ (w' : World) (s' : Bool), S s' w' → (s' = true ↔ (listed.setIfInBounds i true)[p]? = some true) → wpAny P .any ops Q fuel (listed.setIfInBounds i true) (b.put o.dst (V i)) w' := fun w' s' hS' hs' => ih _ _ w' (by simp [hl]) (by
        have := count_set (l := listed.toList) (i := i) (by rw [Array.getElem?_toList]; exact hif)
        rw [Array.toList_setIfInBounds]
        omega) (fun k hk h => by
          rcases (hlist k).1 h with h | h
          · exact hn k hk h
          · omega) ⟨hA.step F ho hlist, s', hS', hs'⟩ (fun k y hy hk e he hbd => (hlist _).2 (Or.inl (by
          rcases (hlist k).1 hk with hk | rfl
          · exact hcl k y hy hk e he hbd
          · rw [ho] at hy
            cases hy
            exact hall' e he hbd)))
      obtain ⟨c, hcA, hv⟩ := hT i o hin ho
      have sm := hA.same F hcA ho hall' (fun e he hbd => F.back i o ho e he hbd) (fun k y hy ⟨e, he, hbd, hon⟩ hk => by
        have := hcl k y hy hk e he hbd
        rw [hon, hif] at this
        cases this) (fun k y hy ⟨e, he, hbd, hon⟩ hk => by
        have := F.back k y hy e he hbd
        omega)
      have hex := exec_same (fun cs b => F.sel i o cs b ho) sm
      rcases hv with ⟨hip, hv⟩ | ⟨hip, hv⟩
      · -- the store
        subst hip
        obtain rfl : s = false := by
          cases s with
          | false => rfl
          | true => rw [hs.1 rfl] at hif; cases hif
        obtain ⟨hg, hd, hm⟩ := hv.of_same hex
        obtain ⟨w2, hr, hS2⟩ := hm w hS
        unfold Go.wpOp
        simp only [ho]
        rw [if_pos (by simp [Region.wanted, hg])]
        refine .inl ?_
        unfold Oper.wp
        rw [hr]
        have := next w2 true hS2 ⟨fun _ => (hlist i).2 (Or.inr rfl), fun _ => rfl⟩
        have e : b.put o.dst (V i) = b.put o.dst undef := by rw [hd]; rfl
        rw [e] at this
        exact this
      · have hp2 : (listed.setIfInBounds i true)[p]? = some true ↔ listed[p]? = some true := by rw [Array.getElem?_setIfInBounds_ne hip]
        rcases hv with ⟨hwt, hv⟩ | hv
        · -- the store waits for it
          obtain rfl : s = false := by
            cases s with
            | false => rfl
            | true =>
              exfalso
              have hpl := hs.1 rfl
              unfold waitsB at hwt
              cases hp : ops[p]? with
              | none => rw [hp] at hwt; cases hwt
              | some op =>
                rw [hp] at hwt
                obtain ⟨e, he, hb⟩ := Array.any_eq_true'.1 hwt
                simp only [Bool.and_eq_true, beq_iff_eq] at hb
                have := hcl p op hp hpl e he hb.1
                rw [hb.2, hif] at this
                cases this
          exact (hv.of_same hex (wanted_same sm)).wpOp ho hS fun w' hw' => next w' false hw' (hs.trans hp2.symm)
        · exact ((hv s).of_same hex (wanted_same sm)).wpOp ho hS fun w' hw' => next w' s hw' (hs.trans hp2.symm)
theorem wp_region_late {id : Nat} {a : Act} {w : World} {l : List Oper} (p n : Nat) (S : Bool → World → Prop) (hm : P.follows .mixedOrders = true) (hb : detB .any l.toArray = true) (hT : Dap.tailB n l.toArray = true) (hpn : p < n) (hS : S false w.drew)
    (h : wpDet P l.toArray Q S p (l.drop n) 0 (l.take n) a) : (Code.region id l.toArray true).wp P Q a w := by
  have F := fit_of hb
  have T := Dap.tl_of hT
  have hl : l = l.take n ++ l.drop n := (List.take_append_drop n l).symm
  obtain ⟨V, af, _, g2, g3, g4⟩ := ends F a (Nat.le_of_lt T.lt) (by simp) (l.take n) 0 a (fun _ => undef) (Nat.zero_le _) (by simp) ⟨rfl, rfl, fun t _ => rfl, fun i y d hi => absurd hi (by omega)⟩ h
  have no : ∀ k : Nat, (Array.replicate l.toArray.size false)[k]? ≠ some true := fun k hk => by
    rw [Array.getElem?_replicate] at hk
    split at hk
    · cases hk
    · cases hk
  exact wp_region_any hm (anyOrder F T hpn rfl g2 g3 (fun j o hj ho => g4 j o (Nat.zero_le _) hj ho) _ _ _ _ (by simp) (by simp) (fun i _ => no i) ⟨⟨rfl, rfl, fun t _ => rfl, fun i y d hi => absurd hi (no i)⟩, false, hS, ⟨fun h => absurd h (by decide), fun h => absurd h (no p)⟩⟩ (fun k y hy hk => absurd hk (no k)))
theorem ds_both {k : Nat} {rest : List Oper} {o : Oper} {a : Act} {v : Value} (h1 : k ≠ p) (hw : Region.wanted o (yielded ops a.tmps) = true) (hv : ∀ b w, S b w → (execOp a.eval o).run P w = .ok (.value v) w) (h : wpDet P ops Q S p tail (k + 1) rest (a.put o.dst v)) : wpDet P ops Q S p tail k (o :: rest) a :=
  .inr ⟨h1, v, .inr fun b => .inl ⟨hw, fun w hS => .inl ⟨w, hv b w hS, hS⟩⟩, h⟩
theorem ds_first {k : Nat} {rest : List Oper} {o : Oper} {a : Act} {v : Value} (h1 : k ≠ p) (h2 : waitsB ops p k = true) (hw : Region.wanted o (yielded ops a.tmps) = true) (hv : ∀ w, S false w → (execOp a.eval o).run P w = .ok (.value v) w) (h : wpDet P ops Q S p tail (k + 1) rest (a.put o.dst v)) : wpDet P ops Q S p tail k (o :: rest) a :=
  .inr ⟨h1, v, .inl ⟨h2, .inl ⟨hw, fun w hS => .inl ⟨w, hv w hS, hS⟩⟩⟩, h⟩
theorem ds_store {k : Nat} {rest : List Oper} {o : Oper} {a : Act} (h1 : k = p) (hg : o.guard = none) (hd : o.dst = none) (hm : ∀ w, S false w → ∃ w', (execOp a.eval o).run P w = .ok .skip w' ∧ S true w') (h : wpDet P ops Q S p tail (k + 1) rest (a.put o.dst undef)) : wpDet P ops Q S p tail k (o :: rest) a :=
  .inl ⟨h1, ⟨hg, hd, hm⟩, h⟩
theorem ds_nil {k : Nat} {a : Act} (h : ∀ w, S true w → wpList P ops Q tail a w) : wpDet P ops Q S p tail k [] a := h
def Late (W : World) (g : Nat) (cs : Array Value) (T : TypeId) : Bool → World → Prop
  | false, w => Below W.heap.size W w
  | true, w => Blk w g cs T ∧ ∃ w0, Below W.heap.size W w0 ∧ Turned g w0 w
theorem late_blk {W : World} {g : Nat} {cs : Array Value} {T : TypeId} {b : Nat} {us : Array Value} {U : TypeId} (hB : Blk W b us U) (hn : b ≠ g) : ∀ s w, Late W g cs T s w → Blk w b us U
  | false, _, h => hB.keep h
  | true, _, ⟨_, _, h1, h2⟩ => h2.blk (hB.keep h1) hn
theorem ds_putAt {W : World} {g : Nat} {cs : Array Value} {T : TypeId} {k : Nat} {rest : List Oper} {o : Oper} {a : Act} (ty : TypeId) (x y : Operand) (ho : o.op = .store ty x y) (hgd : o.guard = none) (hd : o.dst = none) (h1 : k = p) (off : Nat) (hx : a.eval x = .pointer (some ⟨g, off, none⟩)) (us : Array Value) (hy : a.eval y = .agg us)
    (hi : (P.info? ty).map (·.size) = some us.size) (hu : us.all (·.oneCell') = true) (old : Array Value) (hB : Blk W g old T) (hk : off + us.size ≤ old.size) (hcs : spl old off us.toList = cs)
    (h : wpDet P ops Q (Late W g cs T) p tail (k + 1) rest (a.put o.dst undef)) : wpDet P ops Q (Late W g cs T) p tail k (o :: rest) a := by
  refine ds_store h1 hgd hd (fun w hS => ?_) h
  have hw : Blk w g old T := hB.keep hS
  have hr := run_storeAt_mid (P := P) w g off ty us (fun j hj => ⟨hw.isSome _ (by omega), hw.frozen _⟩) hi hu
  refine ⟨w.setCells g off us.toList, ?_, hcs ▸ blk_setCells us.toList off w old hw, w, hS, turned_setCells g us.toList off w⟩
  unfold execOp
  simp only [ho, hx, hy, Sem.run_bind, hr, Result.andThen_ok]
  rfl
end
end Go.Proofs.Ytgopaajmbifbaaa.Dsl
