import Derived.Deep.RegionHeld
import Derived.Test.YtfaipbdkkkhacaaYC
/- A region that draws its order, each of whose operations tells one value in every world that meets S, with S behind it: one walk, in the text's order, calls that make memory among them. -/
namespace Go.Proofs.Ytfaipbdkkkhacaa.Det
open Go
set_option linter.unusedVariables false

/-- what an operation does in every world that meets S: it tells v, and S holds behind it -/
def Tells (P : Program) (ops : Array Oper) (S : World → Prop) (o : Oper) (v : Value) (a : Act) : Prop :=
  (Region.wanted o (yielded ops a.tmps) = true ∧ ∀ w, S w →
    (∃ w', (execOp a.eval o).run P w = .ok (.value v) w' ∧ S w') ∨
    (∃ f args w', (execOp a.eval o).run P w = .ok (.enter f args) w' ∧ Calls P f args w' fun e w'' => e = .returned v ∧ S w'')) ∨
  (Region.wanted o (yielded ops a.tmps) = false ∧ v = undef)
section
variable {P : Program} {ops : Array Oper} {Q : Exit → Act → World → Prop} {S : World → Prop} {md : Region.Mode}
theorem Tells.of_same {o : Oper} {v : Value} {a a' : Act} (h : Tells P ops S o v a) (he : execOp a'.eval o = execOp a.eval o) (hw : Region.wanted o (yielded ops a'.tmps) = Region.wanted o (yielded ops a.tmps)) : Tells P ops S o v a' := by
  unfold Tells at *
  rw [he, hw]
  exact h
theorem Tells.wpOp {i : Nat} {o : Oper} {v : Value} {a : Act} {w : World} {K : Act → World → Prop} (hi : ops[i]? = some o) (hy : Tells P ops S o v a) (hS : S w) (h : ∀ w', S w' → K (a.put o.dst v) w') : wpOp P ops Q i K a w := by
  unfold Go.wpOp
  simp only [hi]
  rcases hy with ⟨hw, hv⟩ | ⟨hw, rfl⟩
  · rw [if_pos hw]
    refine .inl ?_
    unfold Oper.wp
    rcases hv w hS with ⟨w', hr, hs⟩ | ⟨f, args, w', hr, hc⟩
    · rw [hr]; exact h w' hs
    · rw [hr]
      refine Calls.mono hc fun e w'' he => ?_
      obtain ⟨rfl, hs⟩ := he
      exact h w'' hs
  · rw [if_neg (by rw [hw]; decide)]
    exact h w hS
/-- the walk, in the text's order -/
def wpDet (P : Program) (ops : Array Oper) (Q : Exit → Act → World → Prop) (S : World → Prop) : List Oper → Act → Prop
  | [], a => ∀ w, S w → Q .normal a w
  | o :: rest, a => ∃ v, Tells P ops S o v a ∧ wpDet P ops Q S rest (a.put o.dst v)
/-- nobody looks at what comes later, nor at what it does not wait for; no slot is written twice -/
def detB (md : Region.Mode) (ops : Array Oper) : Bool :=
  Region.noSelect ops && (List.range ops.size).all fun i => match ops[i]? with
    | none => true
    | some x => (x.after.all fun e => !Region.binds md e || decide (e.on < i)) && (List.range ops.size).all fun j => match ops[j]? with
      | none => true
      | some y => match y.dst with
        | none => true
        | some d => (!(x.looksAt ops).contains d || (decide (j < i) && x.after.any fun e => Region.binds md e && e.on == j)) && (i == j || x.dst != some d)
/-- what detB says -/
structure Fit (md : Region.Mode) (ops : Array Oper) : Prop where
  sel : ∀ (j : Nat) (o : Oper) cs b, ops[j]? = some o → o.op ≠ .select cs b
  back : ∀ (i : Nat) (x : Oper), ops[i]? = some x → ∀ e ∈ x.after, Region.binds md e = true → e.on < i
  looks : ∀ (i j : Nat) (x y : Oper) (d : Tmp), ops[i]? = some x → ops[j]? = some y → y.dst = some d → d ∈ x.looksAt ops → j < i ∧ ∃ e ∈ x.after, Region.binds md e = true ∧ e.on = j
  once : ∀ (i j : Nat) (x y : Oper) (d : Tmp), ops[i]? = some x → ops[j]? = some y → i ≠ j → y.dst = some d → x.dst ≠ some d
theorem fit_of (h : detB md ops = true) : Fit md ops := by
  unfold detB at h
  rw [Bool.and_eq_true, List.all_eq_true] at h
  obtain ⟨h0, h⟩ := h
  have lt : ∀ {i : Nat} {x : Oper}, ops[i]? = some x → i ∈ List.range ops.size := fun hx => List.mem_range.2 (Array.getElem?_eq_some_iff.1 hx).1
  refine ⟨Region.noSelect_spec h0, fun i x hx e he hb => ?_, fun i j x y d hx hy hd hl => ?_, fun i j x y d hx hy hij hd => ?_⟩
  · have := h i (lt hx)
    simp only [hx, Bool.and_eq_true, Array.all_eq_true_iff_forall_mem] at this
    have := this.1 e he
    simpa [hb] using this
  · have := h i (lt hx)
    simp only [hx, Bool.and_eq_true, List.all_eq_true] at this
    have := this.2 j (lt hy)
    simp only [hy, hd, Bool.and_eq_true, Bool.or_eq_true, Bool.not_eq_true', decide_eq_true_eq] at this
    rcases this.1 with h1 | ⟨h1, h2⟩
    · rw [List.contains_iff_mem.2 hl] at h1; cases h1
    · obtain ⟨e, he, hb⟩ := Array.any_eq_true'.1 h2
      simp only [Bool.and_eq_true, beq_iff_eq] at hb
      exact ⟨h1, e, he, hb.1, hb.2⟩
  · have := h i (lt hx)
    simp only [hx, Bool.and_eq_true, List.all_eq_true] at this
    have := this.2 j (lt hy)
    simp only [hy, hd, Bool.and_eq_true, Bool.or_eq_true, beq_iff_eq] at this
    rcases this.2 with h1 | h1
    · exact absurd h1 hij
    · simpa using h1
theorem eval_same {a b : Act} {x : Operand} (h : ∀ t, x = .tmp t → b.tmps[t]? = a.tmps[t]?) : b.eval x = a.eval x := by
  cases x with
  | tmp t => simp only [Act.eval, Array.getD_eq_getD_getElem?, h t rfl]
  | _ => rfl
theorem exec_same {o : Oper} {a b : Act} (hs : ∀ cs b, o.op ≠ .select cs b) (h : ∀ t ∈ o.looksAt ops, b.tmps[t]? = a.tmps[t]?) : execOp b.eval o = execOp a.eval o :=
  execOp_congr o hs fun x hx => eval_same fun t ht => h t (by
    subst ht
    exact List.mem_append_left _ (List.mem_filterMap.2 ⟨.tmp t, by simpa using hx, rfl⟩))
theorem wanted_same {o : Oper} {a b : Act} (h : ∀ t ∈ o.looksAt ops, b.tmps[t]? = a.tmps[t]?) : Region.wanted o (yielded ops b.tmps) = Region.wanted o (yielded ops a.tmps) := by
  unfold Region.wanted
  cases hg : o.guard with
  | none => rfl
  | some gw =>
    obtain ⟨g, want⟩ := gw
    have hy : yielded ops b.tmps g = yielded ops a.tmps g := by
      unfold yielded
      cases ht : (ops[g]?).bind (·.dst) with
      | none => rfl
      | some t =>
        have := h t (List.mem_append_right _ (by simp [hg, ht]))
        simp only [Option.bind_some, this]
    simp only [hy]
theorem put_get {a : Act} {d : Option Tmp} {v : Value} {t : Tmp} (h : d ≠ some t) : (a.put d v).tmps[t]? = a.tmps[t]? := by
  cases d with
  | none => rfl
  | some d => exact Array.getElem?_setIfInBounds_ne (fun e => h (by rw [e]))
theorem put_size (a : Act) (d : Option Tmp) (v : Value) : (a.put d v).tmps.size = a.tmps.size := by
  cases d <;> simp [Act.put]
theorem put_df (a : Act) (d : Option Tmp) (v : Value) : (a.put d v).defers = a.defers := by
  cases d <;> rfl
theorem put_at {a : Act} {d : Tmp} {v : Value} (h : d < a.tmps.size) : (a.put (some d) v).tmps[d]? = some v := by
  simp [Act.put, h]
/-- the frame at the end, and what each operation told on the way -/
theorem ends (F : Fit md ops) : ∀ (l : List Oper) (k : Nat) (a : Act), ops.toList.drop k = l → wpDet P ops Q S l a →
    ∃ af : Act, (∀ w, S w → Q .normal af w) ∧ af.tmps.size = a.tmps.size ∧ af.defers = a.defers ∧ (∀ t : Tmp, (∀ (j : Nat) (o : Oper), k ≤ j → ops[j]? = some o → o.dst ≠ some t) → af.tmps[t]? = a.tmps[t]?) ∧
      ∀ (j : Nat) (o : Oper), k ≤ j → ops[j]? = some o → ∃ v, Tells P ops S o v af ∧ ∀ d, o.dst = some d → d < a.tmps.size → af.tmps[d]? = some v := by
  intro l
  induction l with
  | nil =>
    intro k a hl h
    refine ⟨a, h, rfl, rfl, fun _ _ => rfl, fun j o hj ho => ?_⟩
    have h1 : ops.toList.length ≤ k := by
      have := congrArg List.length hl
      simp at this
      simpa using (by omega : ops.size ≤ k)
    have := (Array.getElem?_eq_some_iff.1 ho).1
    simp at h1
    omega
  | cons o l ih =>
    intro k a hl h
    obtain ⟨v, hv, hrest⟩ := h
    have hk : ops[k]? = some o := by
      have := congrArg List.head? hl
      simpa [List.head?_drop] using this
    have hl' : ops.toList.drop (k + 1) = l := by
      rw [← List.drop_drop, hl]; rfl
    obtain ⟨af, g1, g2, g3, g4, g5⟩ := ih (k + 1) _ hl' hrest
    rw [put_size] at g2 g5
    rw [put_df] at g3
    refine ⟨af, g1, g2, g3, fun t ht => ?_, fun j x hj hx => ?_⟩
    · rw [g4 t fun j x hj hx => ht j x (by omega) hx, put_get (ht k o (by omega) hk)]
    · by_cases hjk : j = k
      · subst hjk
        rw [hk] at hx
        cases hx
        have same : ∀ t ∈ o.looksAt ops, af.tmps[t]? = a.tmps[t]? := fun t ht => by
          have no : ∀ i y, j ≤ i → ops[i]? = some y → y.dst ≠ some t := fun i y hi hy hd => by
            have := (F.looks j i o y t hk hy hd ht).1
            omega
          rw [g4 t fun i y hi hy => no i y (by omega) hy, put_get (no j o (by omega) hk)]
        refine ⟨v, hv.of_same (exec_same (fun cs b => F.sel j o cs b hk) same) (wanted_same same), fun d hd hlt => ?_⟩
        rw [g4 d fun i y hi hy => F.once i j y o d hy hk (by omega) hd, hd, put_at hlt]
      · exact g5 j x (by omega) hx
theorem count_set {l : List Bool} {i : Nat} (h : l[i]? = some false) : (l.set i true).count false + 1 = l.count false := by
  induction l generalizing i with
  | nil => simp at h
  | cons b l ih =>
    cases i with
    | zero =>
      simp only [List.getElem?_cons_zero, Option.some.injEq] at h
      subst h
      simp
    | succ i =>
      have := ih (i := i) (by simpa using h)
      rw [List.set_cons_succ, List.count_cons, List.count_cons]
      omega
/-- in whatever order -/
theorem anyOrder (F : Fit md ops) {af : Act} (hQ : ∀ w, S w → Q .normal af w) (hT : ∀ (j : Nat) (o : Oper), ops[j]? = some o → ∃ v, Tells P ops S o v af ∧ ∀ d, o.dst = some d → d < af.tmps.size → af.tmps[d]? = some v) :
    ∀ (fuel : Nat) (listed : Array Bool) (b : Act) (w : World), listed.size = ops.size → listed.toList.count false ≤ fuel → b.tmps.size = af.tmps.size → b.defers = af.defers →
      (∀ t : Tmp, (∀ (j : Nat) (o : Oper), listed[j]? = some false → ops[j]? = some o → o.dst ≠ some t) → b.tmps[t]? = af.tmps[t]?) → S w → wpAny P md ops Q fuel listed b w := by
  have done : ∀ (listed : Array Bool) (b : Act), listed.size = ops.size → b.tmps.size = af.tmps.size → b.defers = af.defers →
      (∀ t : Tmp, (∀ (j : Nat) (o : Oper), listed[j]? = some false → ops[j]? = some o → o.dst ≠ some t) → b.tmps[t]? = af.tmps[t]?) → Region.ready md ops listed = [] → (∀ j : Nat, listed[j]? ≠ some false) ∧ b = af := by
    intro listed b hl hs hd hb hr
    have none : ∀ n j : Nat, j < n → listed[j]? ≠ some false := by
      intro n
      induction n with
      | zero => intro j hj; omega
      | succ n ih =>
        intro j hj hf
        by_cases hjn : j < n
        · exact ih j hjn hf
        · have hjn : j = n := by omega
          subst hjn
          have hlt : j < ops.size := by rw [← hl]; exact (Array.getElem?_eq_some_iff.1 hf).1
          have hj : j ∈ Region.ready md ops listed := mem_ready.2 ⟨by simp [hf], ops[j], Array.getElem?_eq_getElem hlt, fun e he hbd => by
            have he := F.back j ops[j] (Array.getElem?_eq_getElem hlt) e he hbd
            have h1 := ih e.on he
            have h2 : e.on < listed.size := by omega
            rw [Array.getElem?_eq_getElem h2] at h1
            rw [Array.getD_eq_getD_getElem?, Array.getElem?_eq_getElem h2]
            cases hc : listed[e.on] with
            | true => rfl
            | false => rw [hc] at h1; exact absurd rfl h1⟩
          rw [hr] at hj
          cases hj
    have all : ∀ j : Nat, listed[j]? ≠ some false := fun j => none (j + 1) j (by omega)
    refine ⟨all, ?_⟩
    have ht : b.tmps = af.tmps := Array.ext_getElem? fun t => hb t fun j o hj _ => absurd hj (all j)
    cases b; cases af
    simp only at ht hd
    rw [ht, hd]
  intro fuel
  induction fuel with
  | zero =>
    intro listed b w hl hc hs hd hb hS
    have hr : Region.ready md ops listed = [] := by
      cases hr : Region.ready md ops listed with
      | nil => rfl
      | cons i is =>
        have hi : i ∈ Region.ready md ops listed := by rw [hr]; simp
        obtain ⟨h0, o, ho, _⟩ := mem_ready.1 hi
        have hlt : i < listed.size := by rw [hl]; exact (Array.getElem?_eq_some_iff.1 ho).1
        have : false ∈ listed.toList := by
          rw [Array.getD_eq_getD_getElem?, Array.getElem?_eq_getElem hlt] at h0
          have h0 : listed[i] = false := h0
          rw [← h0]
          exact Array.getElem_mem_toList hlt
        have := List.count_pos_iff.2 this
        omega
    obtain ⟨_, rfl⟩ := done listed b hl hs hd hb hr
    exact ⟨hr, hQ w hS⟩
  | succ fuel ih =>
    intro listed b w hl hc hs hd hb hS
    refine ⟨fun hr => ?_, fun i hi => ?_⟩
    · obtain ⟨_, rfl⟩ := done listed b hl hs hd hb hr
      exact hQ w hS
    · obtain ⟨h0, o, ho, hall⟩ := mem_ready.1 hi
      have hlt : i < listed.size := by rw [hl]; exact (Array.getElem?_eq_some_iff.1 ho).1
      have hif : listed[i]? = some false := by
        rw [Array.getElem?_eq_getElem hlt]
        rw [Array.getD_eq_getD_getElem?, Array.getElem?_eq_getElem hlt] at h0
        have h0 : listed[i] = false := h0
        rw [h0]
      obtain ⟨v, hv, hat⟩ := hT i o ho
      have same : ∀ t ∈ o.looksAt ops, b.tmps[t]? = af.tmps[t]? := fun t ht => hb t fun j y hj hy hd => by
        obtain ⟨_, e, he, hbd, hon⟩ := F.looks i j o y t ho hy hd ht
        have h1 := hall e he hbd
        rw [hon] at h1
        rw [Array.getD_eq_getD_getElem?, hj] at h1
        cases h1
      refine (hv.of_same (exec_same (fun cs b => F.sel i o cs b ho) same) (wanted_same same)).wpOp ho hS fun w' hS' => ?_
      refine ih _ _ w' (by simp [hl]) ?_ (by rw [put_size, hs]) (by rw [put_df, hd]) (fun t ht => ?_) hS'
      · have := count_set (l := listed.toList) (i := i) (by rw [Array.getElem?_toList]; exact hif)
        rw [Array.toList_setIfInBounds]
        omega
      · by_cases hdt : o.dst = some t
        · rw [hdt]
          by_cases hsz : t < af.tmps.size
          · rw [put_at (by rw [hs]; exact hsz), hat t hdt hsz]
          · rw [Array.getElem?_eq_none (by rw [put_size, hs]; exact Nat.le_of_not_lt hsz), Array.getElem?_eq_none (Nat.le_of_not_lt hsz)]
        · rw [put_get hdt]
          refine hb t fun j y hj hy hyd => ?_
          by_cases hji : j = i
          · subst hji
            rw [ho] at hy
            cases hy
            exact hdt hyd
          · exact ht j y (by rw [Array.getElem?_setIfInBounds_ne (Ne.symm hji)]; exact hj) hy hyd
/-- the beginning: from behind the draw -/
theorem wp_region_det {id : Nat} {a : Act} {w : World} {l : List Oper} (hm : P.follows .mixedOrders = true) (hb : detB .any l.toArray = true) (hS : S w.drew) (h : wpDet P l.toArray Q S l a) : (Code.region id l.toArray true).wp P Q a w := by
  have F := fit_of hb
  obtain ⟨af, g1, g2, g3, g4, g5⟩ := ends F l 0 a (by simp) h
  have un : ∀ (j : Nat) (o : Oper), l.toArray[j]? = some o → (Array.replicate l.toArray.size false)[j]? = some false := fun j o ho => by
    have := (Array.getElem?_eq_some_iff.1 ho).1
    simp only [Array.getElem?_replicate, this, if_true]
  exact wp_region_any hm (anyOrder F g1 (fun j o ho => by
    obtain ⟨v, h1, h2⟩ := g5 j o (Nat.zero_le _) ho
    exact ⟨v, h1, fun d hd hlt => h2 d hd (by rw [← g2]; exact hlt)⟩) _ _ _ _ (by simp) (by simp) g2.symm g3.symm (fun t ht => (g4 t fun j o _ ho => ht j o (un j o ho) ho).symm) hS)
end
end Go.Proofs.Ytfaipbdkkkhacaa.Det
/- The steps of such a walk. -/
namespace Go.Proofs.Ytfaipbdkkkhacaa.Det
open Go Go.RowKit
set_option linter.unusedVariables false
section
variable {P : Program} {ops : Array Oper} {Q : Exit → Act → World → Prop} {S : World → Prop} {rest : List Oper} {o : Oper} {a : Act}
theorem det_take {v : Value} (hw : Region.wanted o (yielded ops a.tmps) = true) (hv : ∀ w, S w → (execOp a.eval o).run P w = .ok (.value v) w) (h : wpDet P ops Q S rest (a.put o.dst v)) : wpDet P ops Q S (o :: rest) a :=
  ⟨v, .inl ⟨hw, fun w hS => .inl ⟨w, hv w hS, hS⟩⟩, h⟩
theorem det_skip (hw : Region.wanted o (yielded ops a.tmps) = false) (h : wpDet P ops Q S rest (a.put o.dst undef)) : wpDet P ops Q S (o :: rest) a :=
  ⟨undef, .inr ⟨hw, rfl⟩, h⟩
theorem det_call {f : FuncId} {args : Array Value} {v : Value} (hw : Region.wanted o (yielded ops a.tmps) = true) (hr : ∀ w, S w → (execOp a.eval o).run P w = .ok (.enter f args) w)
    (hc : ∀ w, S w → Calls P f args w fun e w' => e = .returned v ∧ S w') (h : wpDet P ops Q S rest (a.put o.dst v)) : wpDet P ops Q S (o :: rest) a :=
  ⟨v, .inl ⟨hw, fun w hS => .inr ⟨f, args, w, hr w hS, hc w hS⟩⟩, h⟩
theorem det_nil (h : ∀ w, S w → Q .normal a w) : wpDet P ops Q S [] a := h
/-- a whole struct or array -/
theorem det_load (ty : TypeId) (n : Nat) (d : TypeDesc) (hu : P.underlying ty = some d) (hd : (match d with | .struct _ | .array _ _ => true | _ => false) = true) (hi : (P.info? ty).map (·.size) = some n)
    (x : Operand) (ho : o.op = .load ty x) (hw : Region.wanted o (yielded ops a.tmps) = true) (b : Nat) (hx : a.eval x = .pointer (some ⟨b, 0, none⟩)) (cs : Array Value) (t : TypeId) (hB : ∀ w, S w → Blk w b cs t) (hn : cs.size = n)
    (h : wpDet P ops Q S rest (a.put o.dst (.agg cs))) : wpDet P ops Q S (o :: rest) a := by
  refine det_take hw (fun w hS => ?_) h
  have hr := run_loadVar_row (P := P) w b t ty cs (0, 0) d (hB w hS) hu hd (by rw [hi, hn])
  unfold execOp
  simp only [ho, hx, Instr.loadAt, Instr.sureAddr, Sem.run_bind, Sem.run_pure, Result.andThen_ok, hr]
end
end Go.Proofs.Ytfaipbdkkkhacaa.Det
