import Derived.Deep.RegionHeld
/- A region that draws its order, each of whose operations tells one value in every world that meets S, with S behind it: one walk, in the text's order, calls that make memory among them. -/
namespace Go.Proofs.Ytpeknlablcgchaa.Det
open Go
set_option linter.unusedVariables false

/-- what an operation does in every world that meets S: it tells v, and S holds behind it -/
def Tells (P : Program) (ops : Array Oper) (S : World → Prop) (o : Oper) (v : Value) (a : Act) : Prop :=
  (Region.wanted o (yielded ops a.tmps) = true ∧ ∀ w, S w →
    (∃ w', (execOp a.eval o).run P w = .ok (.value v) w' ∧ S w') ∨
    (∃ f args w', (execOp a.eval o).run P w = .ok (.enter f args) w' ∧ Calls P f args w' fun e w'' => e = .returned v ∧ S w'')) ∨
  (Region.wanted o (yielded ops a.tmps) = false ∧ v = undef)
section
variable {P : Program} {ops : Array Oper} {Q : Exit → Act → World → Prop} {S : World → Prop} {md : Region.Mode}
theorem Tells.of_same {o : Oper} {v : Value} {a a' : Act} (h : Tells P ops S o v a) (he : execOp a'.eval o = execOp a.eval o) (hw : Region.wanted o (yielded ops a'.tmps) = Region.wanted o (yielded ops a.tmps)) : Tells P ops S o v a' := by
  unfold Tells at *
  rw [he, hw]
  exact h
theorem Tells.wpOp {i : Nat} {o : Oper} {v : Value} {a : Act} {w : World} {K : Act → World → Prop} (hi : ops[i]? = some o) (hy : Tells P ops S o v a) (hS : S w) (h : ∀ w', S w' → K (a.put o.dst v) w') : wpOp P ops Q i K a w := by
  unfold Go.wpOp
  simp only [hi]
  rcases hy with ⟨hw, hv⟩ | ⟨hw, rfl⟩
  · rw [if_pos hw]
    refine .inl ?_
    unfold Oper.wp
    rcases hv w hS with ⟨w', hr, hs⟩ | ⟨f, args, w', hr, hc⟩
    · rw [hr]; exact h w' hs
    · rw [hr]
      refine Calls.mono hc fun e w'' he => ?_
      obtain ⟨rfl, hs⟩ := he
      exact h w'' hs
  · rw [if_neg (by rw [hw]; decide)]
    exact h w hS
/-- the walk, in the text's order -/
def wpDet (P : Program) (ops : Array Oper) (Q : Exit → Act → World → Prop) (S : World → Prop) : List Oper → Act → Prop
  | [], a => ∀ w, S w → Q .normal a w
  | o :: rest, a => ∃ v, Tells P ops S o v a ∧ wpDet P ops Q S rest (a.put o.dst v)
/-- who looks at a slot that another one writes waits for it, or the other waits for him; no slot is written twice -/
def detB (md : Region.Mode) (ops : Array Oper) : Bool :=
  Region.noSelect ops && (List.range ops.size).all fun i => match ops[i]? with
    | none => true
    | some x => (x.after.all fun e => !Region.binds md e || decide (e.on < i)) && (List.range ops.size).all fun j => match ops[j]? with
      | none => true
      | some y => match y.dst with
        | none => true
        | some d => (!(x.looksAt ops).contains d || (decide (j < i) && x.after.any fun e => Region.binds md e && e.on == j) || (decide (i < j) && y.after.any fun e => Region.binds md e && e.on == i)) && (i == j || x.dst != some d)
/-- what detB says -/
structure Fit (md : Region.Mode) (ops : Array Oper) : Prop where
  sel : ∀ (j : Nat) (o : Oper) cs b, ops[j]? = some o → o.op ≠ .select cs b
  back : ∀ (i : Nat) (x : Oper), ops[i]? = some x → ∀ e ∈ x.after, Region.binds md e = true → e.on < i
  looks : ∀ (i j : Nat) (x y : Oper) (d : Tmp), ops[i]? = some x → ops[j]? = some y → y.dst = some d → d ∈ x.looksAt ops → (j < i ∧ ∃ e ∈ x.after, Region.binds md e = true ∧ e.on = j) ∨ (i < j ∧ ∃ e ∈ y.after, Region.binds md e = true ∧ e.on = i)
  once : ∀ (i j : Nat) (x y : Oper) (d : Tmp), ops[i]? = some x → ops[j]? = some y → i ≠ j → y.dst = some d → x.dst ≠ some d
theorem fit_of (h : detB md ops = true) : Fit md ops := by
  unfold detB at h
  rw [Bool.and_eq_true, List.all_eq_true] at h
  obtain ⟨h0, h⟩ := h
  have lt : ∀ {i : Nat} {x : Oper}, ops[i]? = some x → i ∈ List.range ops.size := fun hx => List.mem_range.2 (Array.getElem?_eq_some_iff.1 hx).1
  refine ⟨Region.noSelect_spec h0, fun i x hx e he hb => ?_, fun i j x y d hx hy hd hl => ?_, fun i j x y d hx hy hij hd => ?_⟩
  · have := h i (lt hx)
    simp only [hx, Bool.and_eq_true, Array.all_eq_true_iff_forall_mem] at this
    have := this.1 e he
    simpa [hb] using this
  · have := h i (lt hx)
    simp only [hx, Bool.and_eq_true, List.all_eq_true] at this
    have := this.2 j (lt hy)
    simp only [hy, hd, Bool.and_eq_true, Bool.or_eq_true, Bool.not_eq_true', decide_eq_true_eq] at this
    rcases this.1 with (h1 | ⟨h1, h2⟩) | ⟨h1, h2⟩
    · rw [List.contains_iff_mem.2 hl] at h1; cases h1
    · obtain ⟨e, he, hb⟩ := Array.any_eq_true'.1 h2
      simp only [Bool.and_eq_true, beq_iff_eq] at hb
      exact Or.inl ⟨h1, e, he, hb.1, hb.2⟩
    · obtain ⟨e, he, hb⟩ := Array.any_eq_true'.1 h2
      simp only [Bool.and_eq_true, beq_iff_eq] at hb
      exact Or.inr ⟨h1, e, he, hb.1, hb.2⟩
  · have := h i (lt hx)
    simp only [hx, Bool.and_eq_true, List.all_eq_true] at this
    have := this.2 j (lt hy)
    simp only [hy, hd, Bool.and_eq_true, Bool.or_eq_true, beq_iff_eq] at this
    rcases this.2 with h1 | h1
    · exact absurd h1 hij
    · simpa using h1
theorem eval_same {a b : Act} {x : Operand} (h : ∀ t, x = .tmp t → b.tmps[t]? = a.tmps[t]?) : b.eval x = a.eval x := by
  cases x with
  | tmp t => simp only [Act.eval, Array.getD_eq_getD_getElem?, h t rfl]
  | _ => rfl
theorem exec_same {o : Oper} {a b : Act} (hs : ∀ cs b, o.op ≠ .select cs b) (h : ∀ t ∈ o.looksAt ops, b.tmps[t]? = a.tmps[t]?) : execOp b.eval o = execOp a.eval o :=
  execOp_congr o hs fun x hx => eval_same fun t ht => h t (by
    subst ht
    exact List.mem_append_left _ (List.mem_filterMap.2 ⟨.tmp t, by simpa using hx, rfl⟩))
theorem wanted_same {o : Oper} {a b : Act} (h : ∀ t ∈ o.looksAt ops, b.tmps[t]? = a.tmps[t]?) : Region.wanted o (yielded ops b.tmps) = Region.wanted o (yielded ops a.tmps) := by
  unfold Region.wanted
  cases hg : o.guard with
  | none => rfl
  | some gw =>
    obtain ⟨g, want⟩ := gw
    have hy : yielded ops b.tmps g = yielded ops a.tmps g := by
      unfold yielded
      cases ht : (ops[g]?).bind (·.dst) with
      | none => rfl
      | some t =>
        have := h t (List.mem_append_right _ (by simp [hg, ht]))
        simp only [Option.bind_some, this]
    simp only [hy]
theorem put_get {a : Act} {d : Option Tmp} {v : Value} {t : Tmp} (h : d ≠ some t) : (a.put d v).tmps[t]? = a.tmps[t]? := by
  cases d with
  | none => rfl
  | some d => exact Array.getElem?_setIfInBounds_ne (fun e => h (by rw [e]))
theorem put_size (a : Act) (d : Option Tmp) (v : Value) : (a.put d v).tmps.size = a.tmps.size := by
  cases d <;> simp [Act.put]
theorem put_df (a : Act) (d : Option Tmp) (v : Value) : (a.put d v).defers = a.defers := by
  cases d <;> rfl
theorem put_at {a : Act} {d : Tmp} {v : Value} (h : d < a.tmps.size) : (a.put (some d) v).tmps[d]? = some v := by
  simp [Act.put, h]
/-- a state in which just the operations of D have told their values V -/
structure At (ops : Array Oper) (a0 : Act) (V : Nat → Value) (D : Nat → Prop) (b : Act) : Prop where
  size : b.tmps.size = a0.tmps.size
  defers : b.defers = a0.defers
  old : ∀ t : Tmp, (∀ (i : Nat) (o : Oper), D i → ops[i]? = some o → o.dst ≠ some t) → b.tmps[t]? = a0.tmps[t]?
  told : ∀ (i : Nat) (o : Oper) (d : Tmp), D i → ops[i]? = some o → o.dst = some d → d < a0.tmps.size → b.tmps[d]? = some (V i)
/-- two such states differ at no slot that an operation looks at, where both have what it waits for and neither has what waits for it -/
theorem At.same (F : Fit md ops) {a0 b c : Act} {V : Nat → Value} {D E : Nat → Prop} (hb : At ops a0 V D b) (hc : At ops a0 V E c) {j : Nat} {o : Oper} (ho : ops[j]? = some o)
    (hD : ∀ e ∈ o.after, Region.binds md e = true → D e.on) (hE : ∀ e ∈ o.after, Region.binds md e = true → E e.on)
    (nD : ∀ (i : Nat) (y : Oper), ops[i]? = some y → (∃ e ∈ y.after, Region.binds md e = true ∧ e.on = j) → ¬ D i) (nE : ∀ (i : Nat) (y : Oper), ops[i]? = some y → (∃ e ∈ y.after, Region.binds md e = true ∧ e.on = j) → ¬ E i) :
    ∀ t ∈ o.looksAt ops, b.tmps[t]? = c.tmps[t]? := by
  intro t ht
  by_cases hw : ∃ (i : Nat) (y : Oper), ops[i]? = some y ∧ y.dst = some t
  · obtain ⟨i, y, hy, hyd⟩ := hw
    have uniq : ∀ (i' : Nat) (y' : Oper), ops[i']? = some y' → y'.dst = some t → i' = i := fun i' y' hy' hd' => by
      apply Decidable.byContradiction
      intro hne
      exact F.once i' i y' y t hy' hy hne hyd hd'
    rcases F.looks j i o y t ho hy hyd ht with ⟨_, e, he, hbd, hon⟩ | ⟨_, hex⟩
    · have h1 := hD e he hbd
      have h2 := hE e he hbd
      rw [hon] at h1 h2
      by_cases hsz : t < a0.tmps.size
      · rw [hb.told i y t h1 hy hyd hsz, hc.told i y t h2 hy hyd hsz]
      · rw [Array.getElem?_eq_none (by rw [hb.size]; exact Nat.le_of_not_lt hsz), Array.getElem?_eq_none (by rw [hc.size]; exact Nat.le_of_not_lt hsz)]
    · rw [hb.old t fun i' y' hd' hy' hyt => nD i y hy hex (uniq i' y' hy' hyt ▸ hd'), hc.old t fun i' y' hd' hy' hyt => nE i y hy hex (uniq i' y' hy' hyt ▸ hd')]
  · rw [hb.old t fun i y _ hy hyt => hw ⟨i, y, hy, hyt⟩, hc.old t fun i y _ hy hyt => hw ⟨i, y, hy, hyt⟩]
theorem At.step (F : Fit md ops) {a0 b : Act} {V : Nat → Value} {D E : Nat → Prop} {j : Nat} {o : Oper} (hb : At ops a0 V D b) (ho : ops[j]? = some o) (hE : ∀ i, E i ↔ D i ∨ i = j) : At ops a0 V E (b.put o.dst (V j)) := by
  refine ⟨by rw [put_size, hb.size], by rw [put_df, hb.defers], fun t ht => ?_, fun i y d hi hy hd hlt => ?_⟩
  · rw [put_get (ht j o ((hE j).2 (Or.inr rfl)) ho)]
    exact hb.old t fun i y hi hy => ht i y ((hE i).2 (Or.inl hi)) hy
  · by_cases hij : i = j
    · subst hij
      rw [ho] at hy
      cases hy
      rw [hd, put_at (by rw [hb.size]; exact hlt)]
    · rw [put_get (F.once j i o y d ho hy (Ne.symm hij) hd)]
      exact hb.told i y d (((hE i).1 hi).resolve_right hij) hy hd hlt
theorem At.to {a0 b : Act} {V V' : Nat → Value} {D : Nat → Prop} (hb : At ops a0 V D b) (h : ∀ i, D i → V i = V' i) : At ops a0 V' D b :=
  ⟨hb.size, hb.defers, hb.old, fun i y d hi hy hd hlt => by rw [← h i hi]; exact hb.told i y d hi hy hd hlt⟩
/-- the frame at the end, and what each operation tells on the way -/
theorem ends (F : Fit md ops) (a0 : Act) : ∀ (l : List Oper) (k : Nat) (a : Act) (V0 : Nat → Value), ops.toList.drop k = l → At ops a0 V0 (· < k) a → wpDet P ops Q S l a →
    ∃ (V : Nat → Value) (af : Act), (∀ i, i < k → V i = V0 i) ∧ (∀ w, S w → Q .normal af w) ∧ At ops a0 V (· < ops.size) af ∧
      ∀ j o, k ≤ j → ops[j]? = some o → ∃ c, At ops a0 V (· < j) c ∧ Tells P ops S o (V j) c := by
  intro l
  induction l with
  | nil =>
    intro k a V0 hl hA h
    have h1 : ops.size ≤ k := by
      have := congrArg List.length hl
      simp at this
      omega
    refine ⟨V0, a, fun _ _ => rfl, h, ⟨hA.size, hA.defers, fun t ht => hA.old t fun i o _ ho => ht i o (Array.getElem?_eq_some_iff.1 ho).1 ho, fun i y d hi hy hd hlt => hA.told i y d (by omega) hy hd hlt⟩, fun j o hj ho => ?_⟩
    have := (Array.getElem?_eq_some_iff.1 ho).1
    omega
  | cons o l ih =>
    intro k a V0 hl hA h
    obtain ⟨v, hv, hrest⟩ := h
    have hk : ops[k]? = some o := by
      have := congrArg List.head? hl
      simpa [List.head?_drop] using this
    have hl' : ops.toList.drop (k + 1) = l := by
      rw [← List.drop_drop, hl]; rfl
    have hA1 : At ops a0 (fun i => if i = k then v else V0 i) (· < k) a := hA.to fun i hi => (if_neg (by omega)).symm
    have hA2 := hA1.step F (E := (· < k + 1)) hk (fun i => by omega)
    have ek : (if k = k then v else V0 k) = v := if_pos rfl
    rw [ek] at hA2
    obtain ⟨V, af, g1, g2, g3, g4⟩ := ih (k + 1) _ _ hl' hA2 hrest
    have hVk : V k = v := (g1 k (by omega)).trans ek
    refine ⟨V, af, fun i hi => (g1 i (by omega)).trans (if_neg (by omega)), g2, g3, fun j x hj hx => ?_⟩
    by_cases hjk : j = k
    · subst hjk
      rw [hk] at hx
      cases hx
      exact ⟨a, hA1.to fun i hi => (g1 i (by omega)).symm, by rw [hVk]; exact hv⟩
    · exact g4 j x (by omega) hx
theorem count_set {l : List Bool} {i : Nat} (h : l[i]? = some false) : (l.set i true).count false + 1 = l.count false := by
  induction l generalizing i with
  | nil => simp at h
  | cons b l ih =>
    cases i with
    | zero =>
      simp only [List.getElem?_cons_zero, Option.some.injEq] at h
      subst h
      simp
    | succ i =>
      have := ih (i := i) (by simpa using h)
      rw [List.set_cons_succ, List.count_cons, List.count_cons]
      omega
/-- in whatever order -/
theorem anyOrder (F : Fit md ops) {a0 af : Act} {V : Nat → Value} (hQ : ∀ w, S w → Q .normal af w) (hf : At ops a0 V (· < ops.size) af) (hT : ∀ (j : Nat) (o : Oper), ops[j]? = some o → ∃ c, At ops a0 V (· < j) c ∧ Tells P ops S o (V j) c) :
    ∀ (fuel : Nat) (listed : Array Bool) (b : Act) (w : World), listed.size = ops.size → listed.toList.count false ≤ fuel → At ops a0 V (fun i => listed[i]? = some true) b →
      (∀ (j : Nat) (o : Oper), ops[j]? = some o → listed[j]? = some true → ∀ e ∈ o.after, Region.binds md e = true → listed[e.on]? = some true) → S w → wpAny P md ops Q fuel listed b w := by
  have done : ∀ (listed : Array Bool) (b : Act), listed.size = ops.size → At ops a0 V (fun i => listed[i]? = some true) b → Region.ready md ops listed = [] → b = af := by
    intro listed b hl hb hr
    have none : ∀ n j : Nat, j < n → listed[j]? ≠ some false := by
      intro n
      induction n with
      | zero => intro j hj; omega
      | succ n ih =>
        intro j hj hf
        by_cases hjn : j < n
        · exact ih j hjn hf
        · have hjn : j = n := by omega
          subst hjn
          have hlt : j < ops.size := by rw [← hl]; exact (Array.getElem?_eq_some_iff.1 hf).1
          have hj : j ∈ Region.ready md ops listed := mem_ready.2 ⟨by simp [hf], ops[j], Array.getElem?_eq_getElem hlt, fun e he hbd => by
            have he := F.back j ops[j] (Array.getElem?_eq_getElem hlt) e he hbd
            have h1 := ih e.on he
            have h2 : e.on < listed.size := by omega
            rw [Array.getElem?_eq_getElem h2] at h1
            rw [Array.getD_eq_getD_getElem?, Array.getElem?_eq_getElem h2]
            cases hc : listed[e.on] with
            | true => rfl
            | false => rw [hc] at h1; exact absurd rfl h1⟩
          rw [hr] at hj
          cases hj
    have all : ∀ j : Nat, j < ops.size → listed[j]? = some true := fun j hj => by
      have h1 := none (j + 1) j (by omega)
      have h2 : j < listed.size := by omega
      rw [Array.getElem?_eq_getElem h2] at h1 ⊢
      cases hc : listed[j] with
      | true => rfl
      | false => rw [hc] at h1; exact absurd rfl h1
    have ht : b.tmps = af.tmps := Array.ext_getElem? fun t => by
      by_cases hw : ∃ (i : Nat) (y : Oper), ops[i]? = some y ∧ y.dst = some t
      · obtain ⟨i, y, hy, hyd⟩ := hw
        have hi := (Array.getElem?_eq_some_iff.1 hy).1
        by_cases hsz : t < a0.tmps.size
        · rw [hb.told i y t (all i hi) hy hyd hsz, hf.told i y t hi hy hyd hsz]
        · rw [Array.getElem?_eq_none (by rw [hb.size]; exact Nat.le_of_not_lt hsz), Array.getElem?_eq_none (by rw [hf.size]; exact Nat.le_of_not_lt hsz)]
      · rw [hb.old t fun i y _ hy hyt => hw ⟨i, y, hy, hyt⟩, hf.old t fun i y _ hy hyt => hw ⟨i, y, hy, hyt⟩]
    have hd := hb.defers.trans hf.defers.symm
    cases b; cases af
    simp only at ht hd
    rw [ht, hd]
  intro fuel
  induction fuel with
  | zero =>
    intro listed b w hl hc hb hcl hS
    have hr : Region.ready md ops listed = [] := by
      cases hr : Region.ready md ops listed with
      | nil => rfl
      | cons i is =>
        have hi : i ∈ Region.ready md ops listed := by rw [hr]; simp
        obtain ⟨h0, o, ho, _⟩ := mem_ready.1 hi
        have hlt : i < listed.size := by rw [hl]; exact (Array.getElem?_eq_some_iff.1 ho).1
        have : false ∈ listed.toList := by
          rw [Array.getD_eq_getD_getElem?, Array.getElem?_eq_getElem hlt] at h0
          have h0 : listed[i] = false := h0
          rw [← h0]
          exact Array.getElem_mem_toList hlt
        have := List.count_pos_iff.2 this
        omega
    obtain rfl := done listed b hl hb hr
    exact ⟨hr, hQ w hS⟩
  | succ fuel ih =>
    intro listed b w hl hc hb hcl hS
    refine ⟨fun hr => ?_, fun i hi => ?_⟩
    · obtain rfl := done listed b hl hb hr
      exact hQ w hS
    · obtain ⟨h0, o, ho, hall⟩ := mem_ready.1 hi
      have hlt : i < listed.size := by rw [hl]; exact (Array.getElem?_eq_some_iff.1 ho).1
      have hif : listed[i]? = some false := by
        rw [Array.getElem?_eq_getElem hlt]
        rw [Array.getD_eq_getD_getElem?, Array.getElem?_eq_getElem hlt] at h0
        have h0 : listed[i] = false := h0
        rw [h0]
      have hall' : ∀ e ∈ o.after, Region.binds md e = true → listed[e.on]? = some true := fun e he hbd => by
        have h1 := hall e he hbd
        rw [Array.getD_eq_getD_getElem?] at h1
        cases hq : listed[e.on]? with
        | none => rw [hq] at h1; cases h1
        | some q => rw [hq] at h1; exact congrArg some h1
      obtain ⟨c, hcA, hv⟩ := hT i o ho
      have same := hb.same F hcA ho hall' (fun e he hbd => F.back i o ho e he hbd) (fun k y hy ⟨e, he, hbd, hon⟩ hk => by
        have := hcl k y hy hk e he hbd
        rw [hon, hif] at this
        cases this) (fun k y hy ⟨e, he, hbd, hon⟩ hk => by
        have := F.back k y hy e he hbd
        omega)
      have hlist : ∀ k : Nat, (listed.setIfInBounds i true)[k]? = some true ↔ listed[k]? = some true ∨ k = i := fun k => by
        by_cases hki : k = i
        · subst hki
          simp [hlt]
        · rw [Array.getElem?_setIfInBounds_ne (Ne.symm hki)]
          exact ⟨Or.inl, fun h => h.resolve_right hki⟩
      refine (hv.of_same (exec_same (fun cs b => F.sel i o cs b ho) same) (wanted_same same)).wpOp ho hS fun w' hS' => ?_
      refine ih _ _ w' (by simp [hl]) ?_ (hb.step F ho hlist) (fun k y hy hk e he hbd => ?_) hS'
      · have := count_set (l := listed.toList) (i := i) (by rw [Array.getElem?_toList]; exact hif)
        rw [Array.toList_setIfInBounds]
        omega
      · refine (hlist _).2 (Or.inl ?_)
        rcases (hlist k).1 hk with hk | rfl
        · exact hcl k y hy hk e he hbd
        · rw [ho] at hy
          cases hy
          exact hall' e he hbd
/-- the beginning: from behind the draw -/
theorem wp_region_det {id : Nat} {a : Act} {w : World} {l : List Oper} (hm : P.follows .mixedOrders = true) (hb : detB .any l.toArray = true) (hS : S w.drew) (h : wpDet P l.toArray Q S l a) : (Code.region id l.toArray true).wp P Q a w := by
  have F := fit_of hb
  obtain ⟨V, af, _, g2, g3, g4⟩ := ends F a l 0 a (fun _ => undef) (by simp) ⟨rfl, rfl, fun t _ => rfl, fun i y d hi => absurd hi (by omega)⟩ h
  have no : ∀ k : Nat, (Array.replicate l.toArray.size false)[k]? ≠ some true := fun k hk => by
    rw [Array.getElem?_replicate] at hk
    split at hk
    · cases hk
    · cases hk
  exact wp_region_any hm (anyOrder F g2 g3 (fun j o ho => g4 j o (Nat.zero_le _) ho) _ _ _ _ (by simp) (by simp) ⟨rfl, rfl, fun t _ => rfl, fun i y d hi => absurd hi (no i)⟩ (fun k y hy hk => absurd hk (no k)) hS)
end
end Go.Proofs.Ytpeknlablcgchaa.Det
