import Derived.Test.YtpeknlablcgchaaDw
/- A region that draws its order and whose last operation waits for all others (x.f = g(..)): one walk, in the text's order, the last operation behind them all. -/
namespace Go.Proofs.Ytpeknlablcgchaa.Det
open Go
set_option linter.unusedVariables false
/-- each operation but the last is awaited by a later one -/
def lastB (md : Region.Mode) (ops : Array Oper) : Bool :=
  (List.range (ops.size - 1)).all fun i => (List.range ops.size).any fun j => decide (i < j) && match ops[j]? with
    | none => false
    | some y => y.after.any fun e => Region.binds md e && e.on == i
section
variable {P : Program} {ops : Array Oper} {Q : Exit → Act → World → Prop} {S : World → Prop} {md : Region.Mode}
theorem last_waits (h : lastB md ops = true) {listed : Array Bool} {x : Oper} (hx : ops[ops.size - 1]? = some x)
    (hcl : ∀ (j : Nat) (o : Oper), ops[j]? = some o → listed[j]? = some true → ∀ e ∈ o.after, Region.binds md e = true → listed[e.on]? = some true)
    (hall : ∀ e ∈ x.after, Region.binds md e = true → listed[e.on]? = some true) : ∀ k i : Nat, i < ops.size - 1 → ops.size - 1 - i ≤ k → listed[i]? = some true := by
  intro k
  induction k with
  | zero => intro i hi hk; omega
  | succ k ih =>
    intro i hi hk
    unfold lastB at h
    rw [List.all_eq_true] at h
    have h1 := h i (List.mem_range.2 hi)
    rw [List.any_eq_true] at h1
    obtain ⟨j, hj, h2⟩ := h1
    rw [Bool.and_eq_true, decide_eq_true_eq] at h2
    obtain ⟨hij, h2⟩ := h2
    have hjn := List.mem_range.1 hj
    cases hy : ops[j]? with
    | none => rw [hy] at h2; cases h2
    | some y =>
      rw [hy] at h2
      obtain ⟨e, he, hb⟩ := Array.any_eq_true'.1 h2
      simp only [Bool.and_eq_true, beq_iff_eq] at hb
      rw [← hb.2]
      by_cases hl : j = ops.size - 1
      · subst hl
        rw [hx] at hy
        cases hy
        exact hall e he hb.1
      · exact hcl j y hy (ih j (by omega) (by omega)) e he hb.1
theorem endsL (F : Fit md ops) (a0 : Act) (x : Oper) : ∀ (l : List Oper) (k : Nat) (a : Act) (V0 : Nat → Value), ops.toList.drop k = l ++ [x] → At ops a0 V0 (· < k) a → wpDet P ops Q S l a →
    ∃ (V : Nat → Value) (af : Act), (∀ i, i < k → V i = V0 i) ∧ (∀ w, S w → Q .normal af w) ∧ At ops a0 V (· < ops.size - 1) af ∧
      ∀ j o, k ≤ j → j < ops.size - 1 → ops[j]? = some o → ∃ c, At ops a0 V (· < j) c ∧ Tells P ops S o (V j) c := by
  intro l
  induction l with
  | nil =>
    intro k a V0 hl hA h
    have h1 : ops.size = k + 1 := by
      have := congrArg List.length hl
      simp at this
      omega
    have e : ops.size - 1 = k := by omega
    rw [e]
    exact ⟨V0, a, fun _ _ => rfl, h, hA, fun j o hj hj2 _ => by omega⟩
  | cons o l ih =>
    intro k a V0 hl hA h
    obtain ⟨v, hv, hrest⟩ := h
    have hk : ops[k]? = some o := by
      have := congrArg List.head? hl
      simpa [List.head?_drop] using this
    have hl' : ops.toList.drop (k + 1) = l ++ [x] := by
      rw [← List.drop_drop, hl]; rfl
    have hA1 : At ops a0 (fun i => if i = k then v else V0 i) (· < k) a := hA.to fun i hi => (if_neg (by omega)).symm
    have hA2 := hA1.step F (E := (· < k + 1)) hk (fun i => by omega)
    have ek : (if k = k then v else V0 k) = v := if_pos rfl
    rw [ek] at hA2
    obtain ⟨V, af, g1, g2, g3, g4⟩ := ih (k + 1) _ _ hl' hA2 hrest
    have hVk : V k = v := (g1 k (by omega)).trans ek
    refine ⟨V, af, fun i hi => (g1 i (by omega)).trans (if_neg (by omega)), g2, g3, fun j y hj hj2 hy => ?_⟩
    by_cases hjk : j = k
    · subst hjk
      rw [hk] at hy
      cases hy
      exact ⟨a, hA1.to fun i hi => (g1 i (by omega)).symm, by rw [hVk]; exact hv⟩
    · exact g4 j y (by omega) hj2 hy
theorem At.iff {a0 b : Act} {V : Nat → Value} {D E : Nat → Prop} (hb : At ops a0 V D b) (h : ∀ i, D i ↔ E i) : At ops a0 V E b :=
  ⟨hb.size, hb.defers, fun t ht => hb.old t fun i o hi ho => ht i o ((h i).1 hi) ho, fun i y d hi hy hd hlt => hb.told i y d ((h i).2 hi) hy hd hlt⟩
theorem At.eq {a0 b c : Act} {V : Nat → Value} {D : Nat → Prop} (hb : At ops a0 V D b) (hc : At ops a0 V D c) : b = c := by
  have ht : b.tmps = c.tmps := Array.ext_getElem? fun t => by
    by_cases hw : ∃ (i : Nat) (y : Oper), D i ∧ ops[i]? = some y ∧ y.dst = some t
    · obtain ⟨i, y, hi, hy, hyd⟩ := hw
      by_cases hsz : t < a0.tmps.size
      · rw [hb.told i y t hi hy hyd hsz, hc.told i y t hi hy hyd hsz]
      · rw [Array.getElem?_eq_none (by rw [hb.size]; exact Nat.le_of_not_lt hsz), Array.getElem?_eq_none (by rw [hc.size]; exact Nat.le_of_not_lt hsz)]
    · rw [hb.old t fun i y hi hy hyt => hw ⟨i, y, hi, hy, hyt⟩, hc.old t fun i y hi hy hyt => hw ⟨i, y, hi, hy, hyt⟩]
  have hd := hb.defers.trans hc.defers.symm
  cases b; cases c
  simp only at ht hd
  rw [ht, hd]
theorem all_listed (F : Fit md ops) {listed : Array Bool} (hl : listed.size = ops.size) (hr : Region.ready md ops listed = []) : ∀ j : Nat, j < ops.size → listed[j]? = some true := by
  have none : ∀ n j : Nat, j < n → listed[j]? ≠ some false := by
    intro n
    induction n with
    | zero => intro j hj; omega
    | succ n ih =>
      intro j hj hf
      by_cases hjn : j < n
      · exact ih j hjn hf
      · have hjn : j = n := by omega
        subst hjn
        have hlt : j < ops.size := by rw [← hl]; exact (Array.getElem?_eq_some_iff.1 hf).1
        have hj : j ∈ Region.ready md ops listed := mem_ready.2 ⟨by simp [hf], ops[j], Array.getElem?_eq_getElem hlt, fun e he hbd => by
          have he := F.back j ops[j] (Array.getElem?_eq_getElem hlt) e he hbd
          have h1 := ih e.on he
          have h2 : e.on < listed.size := by omega
          rw [Array.getElem?_eq_getElem h2] at h1
          rw [Array.getD_eq_getD_getElem?, Array.getElem?_eq_getElem h2]
          cases hc : listed[e.on] with
          | true => rfl
          | false => rw [hc] at h1; exact absurd rfl h1⟩
        rw [hr] at hj
        cases hj
  intro j hj
  have h1 := none (j + 1) j (by omega)
  have h2 : j < listed.size := by omega
  rw [Array.getElem?_eq_getElem h2] at h1 ⊢
  cases hc : listed[j] with
  | true => rfl
  | false => rw [hc] at h1; exact absurd rfl h1
theorem none_ready {listed : Array Bool} (h : ∀ j : Nat, j < ops.size → listed[j]? = some true) : Region.ready md ops listed = [] := by
  cases hr : Region.ready md ops listed with
  | nil => rfl
  | cons i is =>
    have hi : i ∈ Region.ready md ops listed := by rw [hr]; simp
    obtain ⟨h0, o, ho, _⟩ := mem_ready.1 hi
    have hlt := (Array.getElem?_eq_some_iff.1 ho).1
    rw [Array.getD_eq_getD_getElem?, h i hlt] at h0
    cases h0
theorem anyOrderL (F : Fit md ops) (hL : lastB md ops = true) {x : Oper} (hx : ops[ops.size - 1]? = some x) {a0 af : Act} {V : Nat → Value} (hQ : ∀ w, S w → wpList P ops Q [x] af w) (hf : At ops a0 V (· < ops.size - 1) af)
    (hT : ∀ (j : Nat) (o : Oper), j < ops.size - 1 → ops[j]? = some o → ∃ c, At ops a0 V (· < j) c ∧ Tells P ops S o (V j) c) :
    ∀ (fuel : Nat) (listed : Array Bool) (b : Act) (w : World), listed.size = ops.size → listed.toList.count false ≤ fuel → listed[ops.size - 1]? = some false → At ops a0 V (fun i => listed[i]? = some true) b →
      (∀ (j : Nat) (o : Oper), ops[j]? = some o → listed[j]? = some true → ∀ e ∈ o.after, Region.binds md e = true → listed[e.on]? = some true) → S w → wpAny P md ops Q fuel listed b w := by
  intro fuel
  induction fuel with
  | zero =>
    intro listed b w hl hc hn hb hcl hS
    have : false ∈ listed.toList := by
      have hlt := (Array.getElem?_eq_some_iff.1 hn)
      rw [← hlt.2]
      exact Array.getElem_mem_toList hlt.1
    have := List.count_pos_iff.2 this
    omega
  | succ fuel ih =>
    intro listed b w hl hc hn hb hcl hS
    have hsz : ops.size - 1 < ops.size := (Array.getElem?_eq_some_iff.1 hx).1
    refine ⟨fun hr => ?_, fun i hi => ?_⟩
    · have := all_listed F hl hr _ hsz
      rw [hn] at this
      cases this
    · obtain ⟨h0, o, ho, hall⟩ := mem_ready.1 hi
      have hlt : i < listed.size := by rw [hl]; exact (Array.getElem?_eq_some_iff.1 ho).1
      have hif : listed[i]? = some false := by
        rw [Array.getElem?_eq_getElem hlt]
        rw [Array.getD_eq_getD_getElem?, Array.getElem?_eq_getElem hlt] at h0
        have h0 : listed[i] = false := h0
        rw [h0]
      have hall' : ∀ e ∈ o.after, Region.binds md e = true → listed[e.on]? = some true := fun e he hbd => by
        have h1 := hall e he hbd
        rw [Array.getD_eq_getD_getElem?] at h1
        cases hq : listed[e.on]? with
        | none => rw [hq] at h1; cases h1
        | some q => rw [hq] at h1; exact congrArg some h1
      have hlist : ∀ k : Nat, (listed.setIfInBounds i true)[k]? = some true ↔ listed[k]? = some true ∨ k = i := fun k => by
        by_cases hki : k = i
        · subst hki
          simp [hlt]
        · rw [Array.getElem?_setIfInBounds_ne (Ne.symm hki)]
          exact ⟨Or.inl, fun h => h.resolve_right hki⟩
      by_cases hin : i = ops.size - 1
      · subst hin
        rw [hx] at ho
        cases ho
        have hw := last_waits hL hx hcl hall'
        have hD : ∀ k : Nat, listed[k]? = some true ↔ k < ops.size - 1 := fun k => by
          constructor
          · intro hk
            have h1 := (Array.getElem?_eq_some_iff.1 hk).1
            apply Decidable.byContradiction
            intro h2
            obtain rfl : k = ops.size - 1 := by omega
            rw [hif] at hk
            cases hk
          · intro hk
            exact hw _ k hk (Nat.le_refl _)
        obtain rfl : b = af := (hb.iff hD).eq hf
        have hdone : ∀ (a : Act) (w : World), Q .normal a w → wpAny P md ops Q fuel (listed.setIfInBounds (ops.size - 1) true) a w := fun a w h => by
          have hr : Region.ready md ops (listed.setIfInBounds (ops.size - 1) true) = [] := none_ready fun j hj => (hlist j).2 (by
            by_cases hj2 : j = ops.size - 1
            · exact Or.inr hj2
            · exact Or.inl ((hD j).2 (by omega)))
          cases fuel with
          | zero => exact ⟨hr, h⟩
          | succ fuel => exact ⟨fun _ => h, fun j hj => by rw [hr] at hj; cases hj⟩
        have hq := hQ w hS
        unfold wpList at hq
        unfold Go.wpOp
        simp only [hx]
        split
        · rename_i hwn
          rw [if_pos hwn] at hq
          exact hq.imp (Oper.wp_mono fun a w h => hdone a w h) id
        · rename_i hwn
          rw [if_neg hwn] at hq
          exact hdone _ _ hq
      · obtain ⟨c, hcA, hv⟩ := hT i o (by have := (Array.getElem?_eq_some_iff.1 ho).1; omega) ho
        have same := hb.same F hcA ho hall' (fun e he hbd => F.back i o ho e he hbd) (fun k y hy ⟨e, he, hbd, hon⟩ hk => by
          have := hcl k y hy hk e he hbd
          rw [hon, hif] at this
          cases this) (fun k y hy ⟨e, he, hbd, hon⟩ hk => by
          have := F.back k y hy e he hbd
          omega)
        refine (hv.of_same (exec_same (fun cs b => F.sel i o cs b ho) same) (wanted_same same)).wpOp ho hS fun w' hS' => ?_
        refine ih _ _ w' (by simp [hl]) ?_ (by rw [Array.getElem?_setIfInBounds_ne hin]; exact hn) (hb.step F ho hlist) (fun k y hy hk e he hbd => ?_) hS'
        · have := count_set (l := listed.toList) (i := i) (by rw [Array.getElem?_toList]; exact hif)
          rw [Array.toList_setIfInBounds]
          omega
        · refine (hlist _).2 (Or.inl ?_)
          rcases (hlist k).1 hk with hk | rfl
          · exact hcl k y hy hk e he hbd
          · rw [ho] at hy
            cases hy
            exact hall' e he hbd
/-- the beginning: from behind the draw; n: how many operations come ahead of the last -/
theorem wp_region_last {id : Nat} {a : Act} {w : World} {l : List Oper} {x : Oper} (n : Nat) (hm : P.follows .mixedOrders = true) (hb : detB .any l.toArray = true) (hL : lastB .any l.toArray = true) (hx : l.drop n = [x]) (hS : S w.drew)
    (h : wpDet P l.toArray (fun _ a w => wpList P l.toArray Q [x] a w) S (l.take n) a) : (Code.region id l.toArray true).wp P Q a w := by
  have F := fit_of hb
  have hl : l = l.take n ++ [x] := by rw [← hx, List.take_append_drop]
  obtain ⟨V, af, _, g2, g3, g4⟩ := endsL F a x (l.take n) 0 a (fun _ => undef) (by simpa using hl) ⟨rfl, rfl, fun t _ => rfl, fun i y d hi => absurd hi (by omega)⟩ h
  have aux : ∀ l pre : List Oper, l = pre ++ [x] → l.toArray[l.toArray.size - 1]? = some x := by
    rintro l pre rfl
    simp
  have hxl := aux l _ hl
  have no : ∀ k : Nat, (Array.replicate l.toArray.size false)[k]? ≠ some true := fun k hk => by
    rw [Array.getElem?_replicate] at hk
    split at hk
    · cases hk
    · cases hk
  exact wp_region_any hm (anyOrderL F hL hxl g2 g3 (fun j o hj ho => g4 j o (Nat.zero_le _) hj ho) _ _ _ _ (by simp) (by simp) (by rw [Array.getElem?_replicate, if_pos (Array.getElem?_eq_some_iff.1 hxl).1]) ⟨rfl, rfl, fun t _ => rfl, fun i y d hi => absurd hi (no i)⟩ (fun k y hy hk => absurd hk (no k)) hS)
/-- the same walk where the order is the text's -/
theorem wpList_det : ∀ (l : List Oper) (a : Act) (w : World), S w → wpDet P ops Q S l a → wpList P ops Q l a w
  | [], a, w, hS, h => h w hS
  | o :: rest, a, w, hS, h => by
    obtain ⟨v, ht, hr⟩ := h
    unfold wpList
    rcases ht with ⟨hw, hv⟩ | ⟨hw, rfl⟩
    · rw [if_pos hw]
      refine .inl ?_
      unfold Oper.wp
      rcases hv w hS with ⟨w', hrun, hs⟩ | ⟨f, args, w', hrun, hc⟩
      · rw [hrun]; exact wpList_det rest _ _ hs hr
      · rw [hrun]
        refine Calls.mono hc fun e w'' he => ?_
        obtain ⟨rfl, hs⟩ := he
        exact wpList_det rest _ _ hs hr
    · rw [if_neg (by rw [hw]; decide)]
      exact wpList_det rest _ _ hS hr
theorem wp_region_text {id : Nat} {a : Act} {w : World} {l : List Oper} (hS : S w) (h : wpDet P l.toArray Q S l a) : (Code.region id l.toArray false).wp P Q a w := wp_region_lit (wpList_det l a w hS h)
theorem wpList_append (l m : List Oper) : ∀ (a : Act) (w : World), wpList P ops (fun _ a w => wpList P ops Q m a w) l a w → (∀ o ∈ l, True) → S w → wpDet P ops (fun _ a w => wpList P ops Q m a w) S l a → wpList P ops Q (l ++ m) a w := by
  induction l with
  | nil => intro a w h _ _ _; exact h
  | cons o rest ih =>
    intro a w _ _ hS h
    obtain ⟨v, ht, hr⟩ := h
    rw [List.cons_append]
    unfold wpList
    rcases ht with ⟨hw, hv⟩ | ⟨hw, rfl⟩
    · rw [if_pos hw]
      refine .inl ?_
      unfold Oper.wp
      rcases hv w hS with ⟨w', hrun, hs⟩ | ⟨f, args, w', hrun, hc⟩
      · rw [hrun]; exact ih _ _ (wpList_det rest _ _ hs hr) (fun _ _ => trivial) hs hr
      · rw [hrun]
        refine Calls.mono hc fun e w'' he => ?_
        obtain ⟨rfl, hs⟩ := he
        exact ih _ _ (wpList_det rest _ _ hs hr) (fun _ _ => trivial) hs hr
    · rw [if_neg (by rw [hw]; decide)]
      exact ih _ _ (wpList_det rest _ _ hS hr) (fun _ _ => trivial) hS hr
/-- the first n operations so, the others one by one -/
theorem wp_region_head {id : Nat} {a : Act} {w : World} {l : List Oper} (n : Nat) (hS : S w) (h : wpDet P l.toArray (fun _ a w => wpList P l.toArray Q (l.drop n) a w) S (l.take n) a) : (Code.region id l.toArray false).wp P Q a w := by
  refine wp_region_lit ?_
  have := wpList_append (l.take n) (l.drop n) a w (wpList_det _ _ _ hS h) (fun _ _ => trivial) hS h
  rwa [List.take_append_drop] at this
end
end Go.Proofs.Ytpeknlablcgchaa.Det
