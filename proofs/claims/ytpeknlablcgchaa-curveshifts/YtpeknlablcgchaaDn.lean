import Derived.Test.YtpeknlablcgchaaDl
/- A region that draws its order and makes one variable of a struct (x := g(..), in whatever order that is made and the calls run): one walk, in the text's order. -/
namespace Go.Proofs.Ytpeknlablcgchaa.Dnw
open Go Go.RowKit Det
set_option linter.unusedVariables false
/-- what an operation does in every world behind W: it tells v, and nothing old turns -/
def Tells (P : Program) (ops : Array Oper) (W : World) (o : Oper) (v : Value) (a : Act) : Prop :=
  (Region.wanted o (yielded ops a.tmps) = true ∧ ∀ w, Below W.heap.size W w →
    (∃ w', (execOp a.eval o).run P w = .ok (.value v) w' ∧ Below w.heap.size w w') ∨
    (∃ f args w', (execOp a.eval o).run P w = .ok (.enter f args) w' ∧ Calls P f args w' fun e w'' => e = .returned v ∧ Below w.heap.size w w'')) ∨
  (Region.wanted o (yielded ops a.tmps) = false ∧ v = undef)
/-- the one that makes the block, and the one that stores into it -/
structure New (P : Program) (ops : Array Oper) (p s : Nat) (dp : Tmp) (T : TypeId) (n : Nat) (z : Array Value) : Prop where
  zero : ∀ w, (zeroValue T).run P w = .ok (.agg z) w
  size : (P.info? T).map (·.size) = some n
  zsize : z.size = n
  made : ∃ o, ops[p]? = some o ∧ o.op = .alloc T ∧ o.dst = some dp ∧ o.guard = none
  st : ∃ o y, ops[s]? = some o ∧ o.op = .store T (.tmp dp) y ∧ y ≠ .tmp dp ∧ o.dst = none ∧ o.guard = none ∧ ∃ e ∈ o.after, Region.binds .any e = true ∧ e.on = p
  look : ∀ (i : Nat) (o : Oper), ops[i]? = some o → i ≠ s → dp ∉ o.looksAt ops
/-- the walk, in the text's order; the new block's place is put in at the end -/
def wpDet (P : Program) (ops : Array Oper) (Q : Exit → Act → World → Prop) (W : World) (p s : Nat) (dp : Tmp) (T : TypeId) (cs : Array Value) : Nat → List Oper → Act → Prop
  | _, [], a => ∀ w b, Below W.heap.size W w → Blk w b cs T → W.heap.size ≤ b → Q .normal (a.put (some dp) (.pointer (some ⟨b, 0, none⟩))) w
  | k, o :: rest, a => (k = p ∧ wpDet P ops Q W p s dp T cs (k + 1) rest (a.put o.dst undef)) ∨
    (k = s ∧ (∃ y, o.op = .store T (.tmp dp) y ∧ a.eval y = .agg cs) ∧ wpDet P ops Q W p s dp T cs (k + 1) rest (a.put o.dst undef)) ∨
    (k ≠ p ∧ k ≠ s ∧ ∃ v, Tells P ops W o v a ∧ wpDet P ops Q W p s dp T cs (k + 1) rest (a.put o.dst v))
section
variable {P : Program} {ops : Array Oper} {Q : Exit → Act → World → Prop} {W : World} {p s n : Nat} {dp : Tmp} {T : TypeId} {z cs : Array Value}
/-- what stands behind the walk of an operation that is neither -/
def Step (P : Program) (ops : Array Oper) (W : World) (p s : Nat) (T : TypeId) (dp : Tmp) (cs : Array Value) (j : Nat) (o : Oper) (v : Value) (c : Act) : Prop :=
  (j = p ∧ v = undef) ∨ (j = s ∧ v = undef ∧ ∃ y, o.op = .store T (.tmp dp) y ∧ c.eval y = .agg cs) ∨ (j ≠ p ∧ j ≠ s ∧ Tells P ops W o v c)
theorem ends (F : Fit .any ops) (a0 : Act) : ∀ (l : List Oper) (k : Nat) (a : Act) (V0 : Nat → Value), ops.toList.drop k = l → At ops a0 V0 (· < k) a → wpDet P ops Q W p s dp T cs k l a →
    ∃ (V : Nat → Value) (af : Act), (∀ i, i < k → V i = V0 i) ∧ (∀ w b, Below W.heap.size W w → Blk w b cs T → W.heap.size ≤ b → Q .normal (af.put (some dp) (.pointer (some ⟨b, 0, none⟩))) w) ∧ At ops a0 V (· < ops.size) af ∧
      ∀ j o, k ≤ j → ops[j]? = some o → ∃ c, At ops a0 V (· < j) c ∧ Step P ops W p s T dp cs j o (V j) c := by
  intro l
  induction l with
  | nil =>
    intro k a V0 hl hA h
    have h1 : ops.size ≤ k := by
      have := congrArg List.length hl
      simp at this
      omega
    refine ⟨V0, a, fun _ _ => rfl, h, ⟨hA.size, hA.defers, fun t ht => hA.old t fun i o _ ho => ht i o (Array.getElem?_eq_some_iff.1 ho).1 ho, fun i y d hi hy hd hlt => hA.told i y d (by omega) hy hd hlt⟩, fun j o hj ho => ?_⟩
    have := (Array.getElem?_eq_some_iff.1 ho).1
    omega
  | cons o l ih =>
    intro k a V0 hl hA h
    have hk : ops[k]? = some o := by
      have := congrArg List.head? hl
      simpa [List.head?_drop] using this
    have hl' : ops.toList.drop (k + 1) = l := by
      rw [← List.drop_drop, hl]; rfl
    have key : ∀ v : Value, Step P ops W p s T dp cs k o v a → wpDet P ops Q W p s dp T cs (k + 1) l (a.put o.dst v) → ∃ (V : Nat → Value) (af : Act), (∀ i, i < k → V i = V0 i) ∧ (∀ w b, Below W.heap.size W w → Blk w b cs T → W.heap.size ≤ b → Q .normal (af.put (some dp) (.pointer (some ⟨b, 0, none⟩))) w) ∧ At ops a0 V (· < ops.size) af ∧
        ∀ j o, k ≤ j → ops[j]? = some o → ∃ c, At ops a0 V (· < j) c ∧ Step P ops W p s T dp cs j o (V j) c := by
      intro v hv hrest
      have hA1 : At ops a0 (fun i => if i = k then v else V0 i) (· < k) a := hA.to fun i hi => (if_neg (by omega)).symm
      have hA2 := hA1.step F (E := (· < k + 1)) hk (fun i => by omega)
      have ek : (if k = k then v else V0 k) = v := if_pos rfl
      rw [ek] at hA2
      obtain ⟨V, af, g1, g2, g3, g4⟩ := ih (k + 1) _ _ hl' hA2 hrest
      have hVk : V k = v := (g1 k (by omega)).trans ek
      refine ⟨V, af, fun i hi => (g1 i (by omega)).trans (if_neg (by omega)), g2, g3, fun j y hj hy => ?_⟩
      by_cases hjk : j = k
      · subst hjk
        rw [hk] at hy
        cases hy
        exact ⟨a, hA1.to fun i hi => (g1 i (by omega)).symm, by rw [hVk]; exact hv⟩
      · exact g4 j y (by omega) hy
    rcases h with ⟨h1, h2⟩ | ⟨h1, h2, h3⟩ | ⟨h1, h2, v, h3, h4⟩
    · exact key undef (.inl ⟨h1, rfl⟩) h2
    · exact key undef (.inr (.inl ⟨h1, rfl, h2⟩)) h3
    · exact key v (.inr (.inr ⟨h1, h2, h3⟩)) h4
/-- two states that differ in what one operation told: no other slot differs -/
theorem same (F : Fit .any ops) {a0 b c : Act} {V V' : Nat → Value} {D E : Nat → Prop} (hb : At ops a0 V D b) (hc : At ops a0 V' E c) {j : Nat} {o : Oper} (ho : ops[j]? = some o)
    (hD : ∀ e ∈ o.after, Region.binds .any e = true → D e.on) (hE : ∀ e ∈ o.after, Region.binds .any e = true → E e.on)
    (nD : ∀ (i : Nat) (y : Oper), ops[i]? = some y → (∃ e ∈ y.after, Region.binds .any e = true ∧ e.on = j) → ¬ D i) (nE : ∀ (i : Nat) (y : Oper), ops[i]? = some y → (∃ e ∈ y.after, Region.binds .any e = true ∧ e.on = j) → ¬ E i) (t : Tmp) (ht : t ∈ o.looksAt ops)
    (hV : ∀ (i : Nat) (y : Oper), ops[i]? = some y → y.dst = some t → V i = V' i) : b.tmps[t]? = c.tmps[t]? := by
  by_cases hw : ∃ (i : Nat) (y : Oper), ops[i]? = some y ∧ y.dst = some t
  · obtain ⟨i, y, hy, hyd⟩ := hw
    have uniq : ∀ (i' : Nat) (y' : Oper), ops[i']? = some y' → y'.dst = some t → i' = i := fun i' y' hy' hd' => by
      apply Decidable.byContradiction
      intro hne
      exact F.once i' i y' y t hy' hy hne hyd hd'
    rcases F.looks j i o y t ho hy hyd ht with ⟨_, e, he, hbd, hon⟩ | ⟨_, hex⟩
    · have h1 := hD e he hbd
      have h2 := hE e he hbd
      rw [hon] at h1 h2
      by_cases hsz : t < a0.tmps.size
      · rw [hb.told i y t h1 hy hyd hsz, hc.told i y t h2 hy hyd hsz, hV i y hy hyd]
      · rw [Array.getElem?_eq_none (by rw [hb.size]; exact Nat.le_of_not_lt hsz), Array.getElem?_eq_none (by rw [hc.size]; exact Nat.le_of_not_lt hsz)]
    · rw [hb.old t fun i' y' hd' hy' hyt => nD i y hy hex (uniq i' y' hy' hyt ▸ hd'), hc.old t fun i' y' hd' hy' hyt => nE i y hy hex (uniq i' y' hy' hyt ▸ hd')]
  · rw [hb.old t fun i y _ hy hyt => hw ⟨i, y, hy, hyt⟩, hc.old t fun i y _ hy hyt => hw ⟨i, y, hy, hyt⟩]
theorem Tells.of_same {o : Oper} {v : Value} {a a' : Act} (h : Tells P ops W o v a) (he : execOp a'.eval o = execOp a.eval o) (hw : Region.wanted o (yielded ops a'.tmps) = Region.wanted o (yielded ops a.tmps)) : Tells P ops W o v a' := by
  unfold Tells at *
  rw [he, hw]
  exact h
theorem Tells.wpOp {i : Nat} {o : Oper} {v : Value} {a : Act} {w : World} {K : Act → World → Prop} (hi : ops[i]? = some o) (hy : Tells P ops W o v a) (hS : Below W.heap.size W w) (h : ∀ w', Below w.heap.size w w' → K (a.put o.dst v) w') : wpOp P ops Q i K a w := by
  unfold Go.wpOp
  simp only [hi]
  rcases hy with ⟨hw, hv⟩ | ⟨hw, rfl⟩
  · rw [if_pos hw]
    refine .inl ?_
    unfold Oper.wp
    rcases hv w hS with ⟨w', hr, hs⟩ | ⟨f, args, w', hr, hc⟩
    · rw [hr]; exact h w' hs
    · rw [hr]
      refine Calls.mono hc fun e w'' he => ?_
      obtain ⟨rfl, hs⟩ := he
      exact h w'' hs
  · rw [if_neg (by rw [hw]; decide)]
    exact h w (bq_refl w)
/-- the values, with the new block's place -/
def vq (V : Nat → Value) (p : Nat) (q : Value) (i : Nat) : Value := if i = p then q else V i
/-- what stands on the way -/
def Inv (ops : Array Oper) (a0 : Act) (V : Nat → Value) (W : World) (p s : Nat) (T : TypeId) (z cs : Array Value) (listed : Array Bool) (b : Act) (w : World) : Prop :=
  ∃ q : Value, At ops a0 (vq V p q) (fun i => listed[i]? = some true) b ∧ Below W.heap.size W w ∧
    (listed[p]? = some true → ∃ g, q = .pointer (some ⟨g, 0, none⟩) ∧ W.heap.size ≤ g ∧ Blk w g (if listed[s]? = some true then cs else z) T)
theorem anyOrder (F : Fit .any ops) (N : New P ops p s dp T n z) (hcn : cs.size = n) (h1 : cs.all (·.oneCell') = true) {a0 af : Act} {V : Nat → Value} (hdp : dp < a0.tmps.size)
    (hQ : ∀ w b, Below W.heap.size W w → Blk w b cs T → W.heap.size ≤ b → Q .normal (af.put (some dp) (.pointer (some ⟨b, 0, none⟩))) w) (hf : At ops a0 V (· < ops.size) af)
    (hT : ∀ (j : Nat) (o : Oper), ops[j]? = some o → ∃ c, At ops a0 V (· < j) c ∧ Step P ops W p s T dp cs j o (V j) c) :
    ∀ (fuel : Nat) (listed : Array Bool) (b : Act) (w : World), listed.size = ops.size → listed.toList.count false ≤ fuel → Inv ops a0 V W p s T z cs listed b w →
      (∀ (j : Nat) (o : Oper), ops[j]? = some o → listed[j]? = some true → ∀ e ∈ o.after, Region.binds .any e = true → listed[e.on]? = some true) → wpAny P .any ops Q fuel listed b w := by
  obtain ⟨op, hp, hpo, hpd, hpg⟩ := N.made
  obtain ⟨os, y, hs, hso, hsy, hsd, hsg, esp, hesp, hbsp, hosp⟩ := N.st
  have hps : p ≠ s := by
    intro e
    subst e
    rw [hp] at hs
    cases hs
    rw [hpd] at hsd
    cases hsd
  have done : ∀ (listed : Array Bool) (b : Act) (w : World), listed.size = ops.size → Inv ops a0 V W p s T z cs listed b w → Region.ready .any ops listed = [] → Q .normal b w := by
    intro listed b w hl hI hr
    have all := all_listed F hl hr
    obtain ⟨q, hA, hB, hq⟩ := hI
    have hpl := (Array.getElem?_eq_some_iff.1 hp).1
    obtain ⟨g, rfl, hg, hK⟩ := hq (all p hpl)
    rw [if_pos (all s (Array.getElem?_eq_some_iff.1 hs).1)] at hK
    have hA2 : At ops a0 (vq V p (.pointer (some ⟨g, 0, none⟩))) (· < ops.size) b := hA.iff fun i => by
      constructor
      · intro hi
        have := (Array.getElem?_eq_some_iff.1 hi).1
        omega
      · intro hi; exact all i hi
    have e : b = af.put (some dp) (.pointer (some ⟨g, 0, none⟩)) := by
      have ht : b.tmps = (af.put (some dp) (.pointer (some ⟨g, 0, none⟩))).tmps := Array.ext_getElem? fun t => by
        by_cases htd : dp = t
        · subst htd
          rw [put_at (by rw [hf.size]; exact hdp), hA2.told p op dp hpl hp hpd hdp, vq, if_pos rfl]
        · rw [put_get (by simpa using htd)]
          by_cases hw : ∃ (i : Nat) (y : Oper), ops[i]? = some y ∧ y.dst = some t
          · obtain ⟨i, y, hy, hyd⟩ := hw
            have hi := (Array.getElem?_eq_some_iff.1 hy).1
            by_cases hsz : t < a0.tmps.size
            · rw [hA2.told i y t hi hy hyd hsz, hf.told i y t hi hy hyd hsz, vq, if_neg]
              intro hip
              subst hip
              rw [hp] at hy
              cases hy
              rw [hpd] at hyd
              cases hyd
              exact htd rfl
            · rw [Array.getElem?_eq_none (by rw [hA2.size]; exact Nat.le_of_not_lt hsz), Array.getElem?_eq_none (by rw [hf.size]; exact Nat.le_of_not_lt hsz)]
          · rw [hA2.old t fun i y _ hy hyt => hw ⟨i, y, hy, hyt⟩, hf.old t fun i y _ hy hyt => hw ⟨i, y, hy, hyt⟩]
      have hd := (hA2.defers.trans hf.defers.symm).trans (put_df af (some dp) (.pointer (some ⟨g, 0, none⟩))).symm
      generalize af.put (some dp) (.pointer (some ⟨g, 0, none⟩)) = c at ht hd ⊢
      cases b; cases c
      simp only at ht hd
      rw [ht, hd]
    rw [e]
    exact hQ w g hB hK hg
  intro fuel
  induction fuel with
  | zero =>
    intro listed b w hl hc hI hcl
    have hr : Region.ready .any ops listed = [] := none_ready fun j hj => by
      have h2 : j < listed.size := by omega
      rw [Array.getElem?_eq_getElem h2]
      cases hc2 : listed[j] with
      | true => rfl
      | false =>
        have : false ∈ listed.toList := by rw [← hc2]; exact Array.getElem_mem_toList h2
        have := List.count_pos_iff.2 this
        omega
    exact ⟨hr, done listed b w hl hI hr⟩
  | succ fuel ih =>
    intro listed b w hl hc hI hcl
    refine ⟨fun hr => done listed b w hl hI hr, fun i hi => ?_⟩
    obtain ⟨h0, o, ho, hall⟩ := mem_ready.1 hi
    have hlt : i < listed.size := by rw [hl]; exact (Array.getElem?_eq_some_iff.1 ho).1
    have hif : listed[i]? = some false := by
      rw [Array.getElem?_eq_getElem hlt]
      rw [Array.getD_eq_getD_getElem?, Array.getElem?_eq_getElem hlt] at h0
      have h0 : listed[i] = false := h0
      rw [h0]
    have hall' : ∀ e ∈ o.after, Region.binds .any e = true → listed[e.on]? = some true := fun e he hbd => by
      have h1 := hall e he hbd
      rw [Array.getD_eq_getD_getElem?] at h1
      cases hq : listed[e.on]? with
      | none => rw [hq] at h1; cases h1
      | some q => rw [hq] at h1; exact congrArg some h1
    have hlist : ∀ k : Nat, (listed.setIfInBounds i true)[k]? = some true ↔ listed[k]? = some true ∨ k = i := fun k => by
      by_cases hki : k = i
      · subst hki
        simp [hlt]
      · rw [Array.getElem?_setIfInBounds_ne (Ne.symm hki)]
        exact ⟨Or.inl, fun h => h.resolve_right hki⟩
    have next : ∀ (b' : Act) (w' : World), Inv ops a0 V W p s T z cs (listed.setIfInBounds i true) b' w' → wpAny P .any ops Q fuel (listed.setIfInBounds i true) b' w' := fun b' w' hI' => ih _ _ w' (by simp [hl]) (by
      have := count_set (l := listed.toList) (i := i) (by rw [Array.getElem?_toList]; exact hif)
      rw [Array.toList_setIfInBounds]
      omega) hI' (fun k y hy hk e he hbd => (hlist _).2 (Or.inl (by
        rcases (hlist k).1 hk with hk | rfl
        · exact hcl k y hy hk e he hbd
        · rw [ho] at hy
          cases hy
          exact hall' e he hbd)))
    obtain ⟨q, hA, hB, hq⟩ := hI
    obtain ⟨c, hcA, hv⟩ := hT i o ho
    have sm : ∀ t ∈ o.looksAt ops, t ≠ dp → b.tmps[t]? = c.tmps[t]? := fun t ht hne => same F hA hcA ho hall' (fun e he hbd => F.back i o ho e he hbd) (fun k y hy ⟨e, he, hbd, hon⟩ hk => by
      have := hcl k y hy hk e he hbd
      rw [hon, hif] at this
      cases this) (fun k y hy ⟨e, he, hbd, hon⟩ hk => by
      have := F.back k y hy e he hbd
      omega) t ht fun k y hy hyd => by
        rw [vq, if_neg]
        intro hkp
        subst hkp
        rw [hp] at hy
        cases hy
        rw [hpd] at hyd
        cases hyd
        exact hne rfl
    rcases hv with ⟨hip, hv⟩ | ⟨his, hv, y', hyo, hye⟩ | ⟨hip, his, hv⟩
    · -- the block is made
      subst hip
      rw [hp] at ho
      cases ho
      unfold Go.wpOp
      simp only [hp]
      rw [if_pos (by simp [Region.wanted, hpg])]
      refine .inl ?_
      unfold Oper.wp execOp
      simp only [hpo, Instr.alloc, Sem.run_bind, N.zero, Result.andThen_ok, newVar, newRow, Value.cells]
      have hns : listed[s]? ≠ some true := fun h => by
        have := hcl s os hs h esp hesp hbsp
        rw [hosp, hif] at this
        cases this
      refine next _ _ ⟨.pointer (some ⟨w.heap.size, 0, none⟩), ?_, hB.alloc hB.size _, fun _ => ⟨w.heap.size, rfl, hB.size, ?_⟩⟩
      · have hA1 : At ops a0 (vq V i (.pointer (some ⟨w.heap.size, 0, none⟩))) (fun k => listed[k]? = some true) b := hA.to fun k hk => by
          have hki : k ≠ i := fun h => by subst h; rw [hif] at hk; cases hk
          rw [vq, vq, if_neg hki, if_neg hki]
        have := hA1.step F (E := fun k => (listed.setIfInBounds i true)[k]? = some true) hp hlist
        rw [show vq V i (.pointer (some ⟨w.heap.size, 0, none⟩)) i = .pointer (some ⟨w.heap.size, 0, none⟩) from if_pos rfl] at this
        exact this
      · rw [if_neg (by rw [Array.getElem?_setIfInBounds_ne hps]; exact hns)]
        exact blk_new w z T
    · -- the store
      subst his
      rw [hs] at ho
      cases ho
      have hpl : listed[p]? = some true := hosp ▸ hall' esp hesp hbsp
      obtain ⟨g, rfl, hg, hK⟩ := hq hpl
      rw [if_neg (by rw [hif]; decide)] at hK
      have eyy : y' = y := by rw [hso] at hyo; cases hyo; rfl
      subst eyy
      have ex : b.eval (.tmp dp) = .pointer (some ⟨g, 0, none⟩) := by
        have := hA.told p op dp hpl hp hpd hdp
        rw [vq, if_pos rfl] at this
        show b.tmps.getD dp undef = _
        rw [Array.getD_eq_getD_getElem?, this]; rfl
      have ey : b.eval y' = .agg cs := by
        rw [← hye]
        refine eval_same fun t ht => ?_
        subst ht
        exact sm t (List.mem_append_left _ (List.mem_filterMap.2 ⟨.tmp t, by rw [hso]; simp [Op.operands], rfl⟩)) fun h => hsy (by rw [h])
      unfold Go.wpOp
      simp only [hs]
      rw [if_pos (by simp [Region.wanted, hsg])]
      refine .inl ?_
      unfold Oper.wp execOp
      simp only [hso, ex, ey, Instr.storeAt, Instr.sureAddr, Sem.run_bind, Sem.run_pure, Result.andThen_ok, run_storeVar_row w g T T z cs hK (by rw [N.size, hcn]) (by rw [N.zsize, hcn]) h1]
      have ht := turned_row w g cs
      refine next _ _ ⟨.pointer (some ⟨g, 0, none⟩), ?_, ht.below hB hg, fun _ => ⟨g, rfl, hg, ?_⟩⟩
      · have := hA.step F (E := fun k => (listed.setIfInBounds i true)[k]? = some true) hs hlist
        rw [show vq V p (.pointer (some ⟨g, 0, none⟩)) i = undef by rw [vq, if_neg (Ne.symm hps)]; exact hv] at this
        exact this
      · rw [if_pos (by simp [hlt])]
        exact hK.row cs
    · -- another one
      have hne : dp ∉ o.looksAt ops := N.look i o ho his
      have sm' : ∀ t ∈ o.looksAt ops, b.tmps[t]? = c.tmps[t]? := fun t ht => sm t ht fun h => hne (h ▸ ht)
      refine (hv.of_same (exec_same (fun cs b => F.sel i o cs b ho) sm') (wanted_same sm')).wpOp ho hB fun w' hw' => next _ _ ⟨q, ?_, hB.trans (hw'.mono hB.size), fun h => ?_⟩
      · have := hA.step F (E := fun k => (listed.setIfInBounds i true)[k]? = some true) ho hlist
        rw [show vq V p q i = V i from if_neg hip] at this
        exact this
      · rw [Array.getElem?_setIfInBounds_ne hip] at h
        obtain ⟨g, e1, e2, e3⟩ := hq h
        refine ⟨g, e1, e2, ?_⟩
        rw [Array.getElem?_setIfInBounds_ne his]
        exact e3.keep hw'
/-- the beginning: p makes the block, s stores into it -/
theorem wp_region_new {id : Nat} {a : Act} {w : World} {l : List Oper} (p s : Nat) (dp : Tmp) (T : TypeId) (n : Nat) (z cs : Array Value) (hm : P.follows .mixedOrders = true) (hb : detB .any l.toArray = true) (N : New P l.toArray p s dp T n z) (hcn : cs.size = n) (h1 : cs.all (·.oneCell') = true) (hdp : dp < a.tmps.size)
    (h : wpDet P l.toArray Q w p s dp T cs 0 l a) : (Code.region id l.toArray true).wp P Q a w := by
  have F := fit_of hb
  obtain ⟨V, af, _, g2, g3, g4⟩ := ends F a l 0 a (fun _ => undef) (by simp) ⟨rfl, rfl, fun t _ => rfl, fun i y d hi => absurd hi (by omega)⟩ h
  have no : ∀ k : Nat, (Array.replicate l.toArray.size false)[k]? ≠ some true := fun k hk => by
    rw [Array.getElem?_replicate] at hk
    split at hk
    · cases hk
    · cases hk
  exact wp_region_any hm (anyOrder F N hcn h1 hdp g2 g3 (fun j o ho => g4 j o (Nat.zero_le _) ho) _ _ _ _ (by simp) (by simp) ⟨undef, ⟨rfl, rfl, fun t _ => rfl, fun i y d hi => absurd hi (no i)⟩, bq_drew (bq_refl w), fun h => absurd h (no p)⟩ (fun k y hy hk => absurd hk (no k)))
/-- New, by what a kernel reckons -/
theorem new_of (hz : ∀ w, (zeroValue T).run P w = .ok (.agg z) w) (hn : (P.info? T).map (·.size) = some n) (hzn : z.size = n) {op os : Oper} {y : Operand} (hp : ops[p]? = some op) (hpo : op.op = .alloc T) (hpd : op.dst = some dp) (hpg : op.guard = none)
    (hs : ops[s]? = some os) (hso : os.op = .store T (.tmp dp) y) (hsy : y ≠ .tmp dp) (hsd : os.dst = none) (hsg : os.guard = none) (hsa : (os.after.any fun e => Region.binds .any e && e.on == p) = true)
    (hl : ((List.range ops.size).all fun i => i == s || match ops[i]? with | none => true | some x => !(x.looksAt ops).contains dp) = true) : New P ops p s dp T n z := by
  refine ⟨hz, hn, hzn, ⟨op, hp, hpo, hpd, hpg⟩, ⟨os, y, hs, hso, hsy, hsd, hsg, ?_⟩, fun i o ho hi => ?_⟩
  · obtain ⟨e, he, hb⟩ := Array.any_eq_true'.1 hsa
    simp only [Bool.and_eq_true, beq_iff_eq] at hb
    exact ⟨e, he, hb.1, hb.2⟩
  · rw [List.all_eq_true] at hl
    have := hl i (List.mem_range.2 (Array.getElem?_eq_some_iff.1 ho).1)
    rw [ho] at this
    simp only [Bool.or_eq_true, beq_iff_eq, Bool.not_eq_true'] at this
    rcases this with h | h
    · exact absurd h hi
    · intro hm
      rw [List.contains_iff_mem.2 hm] at h
      cases h
end
end Go.Proofs.Ytpeknlablcgchaa.Dnw
