import Derived.Test.YtpeknlablcgchaaDn
/- A region that draws its order and makes several variables of one struct type (p, q := T{..}, T{..}), in whatever order they are made and stored into: one walk, in the text's order. -/
namespace Go.Proofs.Ytpeknlablcgchaa.Dmn
open Go Go.RowKit Det
set_option linter.unusedVariables false
/-- one of them: op p makes it (slot dp), op s stores cs into it -/
structure Pr where
  p : Nat
  s : Nat
  dp : Tmp
  cs : Array Value
structure New (P : Program) (ops : Array Oper) (T : TypeId) (n : Nat) (x : Pr) : Prop where
  made : ∃ o, ops[x.p]? = some o ∧ o.op = .alloc T ∧ o.dst = some x.dp ∧ o.guard = none
  st : ∃ o y, ops[x.s]? = some o ∧ o.op = .store T (.tmp x.dp) y ∧ y ≠ .tmp x.dp ∧ o.dst = none ∧ o.guard = none ∧ ∃ e ∈ o.after, Region.binds .any e = true ∧ e.on = x.p
  look : ∀ (i : Nat) (o : Oper), ops[i]? = some o → i ≠ x.s → x.dp ∉ o.looksAt ops
  csize : x.cs.size = n
  one : x.cs.all (·.oneCell') = true
/-- the values, with the new blocks' places -/
def vqs (q : Nat → Value) : List Pr → (Nat → Value) → Nat → Value
  | [], V => V
  | x :: xs, V => vqs q xs fun i => if i = x.p then q x.p else V i
theorem vqs_in (q : Nat → Value) : ∀ (xs : List Pr) (V : Nat → Value) (x : Pr), x ∈ xs → vqs q xs V x.p = q x.p
  | [], _, _, h => absurd h (by simp)
  | y :: xs, V, x, h => by
    unfold vqs
    by_cases hx : ∃ z ∈ xs, z.p = x.p
    · obtain ⟨z, hz, e⟩ := hx
      have := vqs_in q xs (fun i => if i = y.p then q y.p else V i) z hz
      rw [e] at this
      exact this
    · have key : ∀ (xs : List Pr) (V : Nat → Value) (i : Nat), (∀ z ∈ xs, z.p ≠ i) → vqs q xs V i = V i := by
        intro xs
        induction xs with
        | nil => intro V i _; rfl
        | cons z zs ih =>
          intro V i hz
          unfold vqs
          rw [ih _ i (fun u hu => hz u (by simp [hu])), if_neg (fun e => hz z (by simp) e.symm)]
      rw [key xs _ x.p (fun z hz e => hx ⟨z, hz, e⟩)]
      rcases List.mem_cons.1 h with rfl | h
      · rw [if_pos rfl]
      · exact absurd ⟨x, h, rfl⟩ hx
theorem vqs_out (q : Nat → Value) : ∀ (xs : List Pr) (V : Nat → Value) (i : Nat), (∀ z ∈ xs, z.p ≠ i) → vqs q xs V i = V i := by
  intro xs
  induction xs with
  | nil => intro V i _; rfl
  | cons z zs ih =>
    intro V i hz
    unfold vqs
    rw [ih _ i (fun u hu => hz u (by simp [hu])), if_neg (fun e => hz z (by simp) e.symm)]
/-- the new blocks' places are put in -/
def puts (q : Nat → Value) : List Pr → Act → Act
  | [], a => a
  | x :: xs, a => puts q xs (a.put (some x.dp) (q x.p))
/-- the walk, in the text's order -/
def wpDet (P : Program) (ops : Array Oper) (Q : Exit → Act → World → Prop) (W : World) (T : TypeId) (xs : List Pr) : Nat → List Oper → Act → Prop
  | _, [], a => ∀ w (q : Nat → Value), Below W.heap.size W w → (∀ x ∈ xs, ∃ g, q x.p = .pointer (some ⟨g, 0, none⟩) ∧ W.heap.size ≤ g ∧ Blk w g x.cs T) → Q .normal (puts q xs a) w
  | k, o :: rest, a => ((∃ x ∈ xs, k = x.p) ∧ wpDet P ops Q W T xs (k + 1) rest (a.put o.dst undef)) ∨
    ((∃ x ∈ xs, k = x.s ∧ ∃ y, o.op = .store T (.tmp x.dp) y ∧ a.eval y = .agg x.cs) ∧ wpDet P ops Q W T xs (k + 1) rest (a.put o.dst undef)) ∨
    ((∀ x ∈ xs, x.p ≠ k ∧ x.s ≠ k) ∧ ∃ v, Dnw.Tells P ops W o v a ∧ wpDet P ops Q W T xs (k + 1) rest (a.put o.dst v))
section
variable {P : Program} {ops : Array Oper} {Q : Exit → Act → World → Prop} {W : World} {n : Nat} {T : TypeId} {z : Array Value} {xs : List Pr}
def Step (P : Program) (ops : Array Oper) (W : World) (T : TypeId) (xs : List Pr) (j : Nat) (o : Oper) (v : Value) (c : Act) : Prop :=
  ((∃ x ∈ xs, j = x.p) ∧ v = undef) ∨ (v = undef ∧ ∃ x ∈ xs, j = x.s ∧ ∃ y, o.op = .store T (.tmp x.dp) y ∧ c.eval y = .agg x.cs) ∨ ((∀ x ∈ xs, x.p ≠ j ∧ x.s ≠ j) ∧ Dnw.Tells P ops W o v c)
theorem ends (F : Fit .any ops) (a0 : Act) : ∀ (l : List Oper) (k : Nat) (a : Act) (V0 : Nat → Value), ops.toList.drop k = l → At ops a0 V0 (· < k) a → wpDet P ops Q W T xs k l a →
    ∃ (V : Nat → Value) (af : Act), (∀ i, i < k → V i = V0 i) ∧ (∀ w (q : Nat → Value), Below W.heap.size W w → (∀ x ∈ xs, ∃ g, q x.p = .pointer (some ⟨g, 0, none⟩) ∧ W.heap.size ≤ g ∧ Blk w g x.cs T) → Q .normal (puts q xs af) w) ∧ At ops a0 V (· < ops.size) af ∧
      ∀ j o, k ≤ j → ops[j]? = some o → ∃ c, At ops a0 V (· < j) c ∧ Step P ops W T xs j o (V j) c := by
  intro l
  induction l with
  | nil =>
    intro k a V0 hl hA h
    have h1 : ops.size ≤ k := by
      have := congrArg List.length hl
      simp at this
      omega
    refine ⟨V0, a, fun _ _ => rfl, h, ⟨hA.size, hA.defers, fun t ht => hA.old t fun i o _ ho => ht i o (Array.getElem?_eq_some_iff.1 ho).1 ho, fun i y d hi hy hd hlt => hA.told i y d (by omega) hy hd hlt⟩, fun j o hj ho => ?_⟩
    have := (Array.getElem?_eq_some_iff.1 ho).1
    omega
  | cons o l ih =>
    intro k a V0 hl hA h
    have hk : ops[k]? = some o := by
      have := congrArg List.head? hl
      simpa [List.head?_drop] using this
    have hl' : ops.toList.drop (k + 1) = l := by
      rw [← List.drop_drop, hl]; rfl
    have key : ∀ v : Value, Step P ops W T xs k o v a → wpDet P ops Q W T xs (k + 1) l (a.put o.dst v) → ∃ (V : Nat → Value) (af : Act), (∀ i, i < k → V i = V0 i) ∧ (∀ w (q : Nat → Value), Below W.heap.size W w → (∀ x ∈ xs, ∃ g, q x.p = .pointer (some ⟨g, 0, none⟩) ∧ W.heap.size ≤ g ∧ Blk w g x.cs T) → Q .normal (puts q xs af) w) ∧ At ops a0 V (· < ops.size) af ∧
        ∀ j o, k ≤ j → ops[j]? = some o → ∃ c, At ops a0 V (· < j) c ∧ Step P ops W T xs j o (V j) c := by
      intro v hv hrest
      have hA1 : At ops a0 (fun i => if i = k then v else V0 i) (· < k) a := hA.to fun i hi => (if_neg (by omega)).symm
      have hA2 := hA1.step F (E := (· < k + 1)) hk (fun i => by omega)
      have ek : (if k = k then v else V0 k) = v := if_pos rfl
      rw [ek] at hA2
      obtain ⟨V, af, g1, g2, g3, g4⟩ := ih (k + 1) _ _ hl' hA2 hrest
      have hVk : V k = v := (g1 k (by omega)).trans ek
      refine ⟨V, af, fun i hi => (g1 i (by omega)).trans (if_neg (by omega)), g2, g3, fun j y hj hy => ?_⟩
      by_cases hjk : j = k
      · subst hjk
        rw [hk] at hy
        cases hy
        exact ⟨a, hA1.to fun i hi => (g1 i (by omega)).symm, by rw [hVk]; exact hv⟩
      · exact g4 j y (by omega) hy
    rcases h with ⟨h1, h2⟩ | ⟨h1, h2⟩ | ⟨h1, v, h3, h4⟩
    · exact key undef (.inl ⟨h1, rfl⟩) h2
    · exact key undef (.inr (.inl ⟨rfl, h1⟩)) h2
    · exact key v (.inr (.inr ⟨h1, h3⟩)) h4
/-- one slot told anew -/
theorem At.re (F : Fit .any ops) {a0 c : Act} {V : Nat → Value} {D : Nat → Prop} (hc : At ops a0 V D c) {p : Nat} {o : Oper} {d : Tmp} (ho : ops[p]? = some o) (hd : o.dst = some d) (hD : D p) (v : Value) : At ops a0 (fun i => if i = p then v else V i) D (c.put (some d) v) := by
  refine ⟨by rw [put_size, hc.size], by rw [put_df, hc.defers], fun t ht => ?_, fun i y e hi hy he hlt => ?_⟩
  · have hne : o.dst ≠ some t := ht p o hD ho
    rw [put_get (by rw [← hd]; exact hne)]
    exact hc.old t ht
  · by_cases hip : i = p
    · subst hip
      rw [ho] at hy
      cases hy
      rw [hd] at he
      cases he
      rw [put_at (by rw [hc.size]; exact hlt), if_pos rfl]
    · have hne : some d ≠ some e := fun h => F.once p i o y e ho hy (Ne.symm hip) he (by rw [hd, h])
      rw [put_get hne, if_neg hip]
      exact hc.told i y e hi hy he hlt
theorem At.puts (F : Fit .any ops) {a0 : Act} {D : Nat → Prop} (q : Nat → Value) : ∀ (xs : List Pr) (V : Nat → Value) (c : Act), (∀ x ∈ xs, New P ops T n x) → (∀ x ∈ xs, D x.p) → At ops a0 V D c → At ops a0 (vqs q xs V) D (puts q xs c)
  | [], V, c, _, _, h => h
  | x :: xs, V, c, hN, hD, h => by
    obtain ⟨o, ho, _, hd, _⟩ := (hN x (by simp)).made
    exact At.puts F q xs _ _ (fun y hy => hN y (by simp [hy])) (fun y hy => hD y (by simp [hy])) (At.re F h ho hd (hD x (by simp)) (q x.p))
/-- what stands on the way -/
def Inv (ops : Array Oper) (a0 : Act) (V : Nat → Value) (W : World) (T : TypeId) (z : Array Value) (xs : List Pr) (listed : Array Bool) (b : Act) (w : World) : Prop :=
  ∃ q : Nat → Value, At ops a0 (vqs q xs V) (fun i => listed[i]? = some true) b ∧ Below W.heap.size W w ∧
    (∀ x ∈ xs, listed[x.p]? = some true → ∃ g, q x.p = .pointer (some ⟨g, 0, none⟩) ∧ W.heap.size ≤ g ∧ Blk w g (if listed[x.s]? = some true then x.cs else z) T) ∧
    (∀ x ∈ xs, ∀ y ∈ xs, x.p ≠ y.p → listed[x.p]? = some true → listed[y.p]? = some true → q x.p ≠ q y.p)
theorem anyOrder (F : Fit .any ops) (N : ∀ x ∈ xs, New P ops T n x) (hz : ∀ w, (zeroValue T).run P w = .ok (.agg z) w) (hsz : (P.info? T).map (·.size) = some n) (hzn : z.size = n)
    (hps : ∀ x ∈ xs, ∀ y ∈ xs, (x.p = y.p → x = y) ∧ (x.s = y.s → x = y)) {a0 af : Act} {V : Nat → Value} (hdp : ∀ x ∈ xs, x.dp < a0.tmps.size)
    (hQ : ∀ w (q : Nat → Value), Below W.heap.size W w → (∀ x ∈ xs, ∃ g, q x.p = .pointer (some ⟨g, 0, none⟩) ∧ W.heap.size ≤ g ∧ Blk w g x.cs T) → Q .normal (puts q xs af) w) (hf : At ops a0 V (· < ops.size) af)
    (hT : ∀ (j : Nat) (o : Oper), ops[j]? = some o → ∃ c, At ops a0 V (· < j) c ∧ Step P ops W T xs j o (V j) c) :
    ∀ (fuel : Nat) (listed : Array Bool) (b : Act) (w : World), listed.size = ops.size → listed.toList.count false ≤ fuel → Inv ops a0 V W T z xs listed b w →
      (∀ (j : Nat) (o : Oper), ops[j]? = some o → listed[j]? = some true → ∀ e ∈ o.after, Region.binds .any e = true → listed[e.on]? = some true) → wpAny P .any ops Q fuel listed b w := by
  have psne : ∀ x ∈ xs, ∀ y ∈ xs, x.p ≠ y.s := by
    intro x hx y hy e
    obtain ⟨op, hp, _, hpd, _⟩ := (N x hx).made
    obtain ⟨os, _, hs, _, _, hsd, _⟩ := (N y hy).st
    rw [e] at hp
    rw [hp] at hs
    cases hs
    rw [hpd] at hsd
    cases hsd
  have done : ∀ (listed : Array Bool) (b : Act) (w : World), listed.size = ops.size → Inv ops a0 V W T z xs listed b w → Region.ready .any ops listed = [] → Q .normal b w := by
    intro listed b w hl hI hr
    have all := all_listed F hl hr
    obtain ⟨q, hA, hB, hq, _⟩ := hI
    have hA2 : At ops a0 (vqs q xs V) (· < ops.size) b := hA.iff fun i => by
      constructor
      · intro hi
        have := (Array.getElem?_eq_some_iff.1 hi).1
        omega
      · intro hi; exact all i hi
    have lt : ∀ x ∈ xs, x.p < ops.size := fun x hx => by
      obtain ⟨op, hp, _⟩ := (N x hx).made
      exact (Array.getElem?_eq_some_iff.1 hp).1
    have e : b = puts q xs af := hA2.eq (At.puts F q xs V af N lt hf)
    rw [e]
    refine hQ w q hB fun x hx => ?_
    obtain ⟨g, h1, h2, h3⟩ := hq x hx (all x.p (lt x hx))
    obtain ⟨os, _, hs, _⟩ := (N x hx).st
    rw [if_pos (all x.s (Array.getElem?_eq_some_iff.1 hs).1)] at h3
    exact ⟨g, h1, h2, h3⟩
  intro fuel
  induction fuel with
  | zero =>
    intro listed b w hl hc hI hcl
    have hr : Region.ready .any ops listed = [] := none_ready fun j hj => by
      have h2 : j < listed.size := by omega
      rw [Array.getElem?_eq_getElem h2]
      cases hc2 : listed[j] with
      | true => rfl
      | false =>
        have : false ∈ listed.toList := by rw [← hc2]; exact Array.getElem_mem_toList h2
        have := List.count_pos_iff.2 this
        omega
    exact ⟨hr, done listed b w hl hI hr⟩
  | succ fuel ih =>
    intro listed b w hl hc hI hcl
    refine ⟨fun hr => done listed b w hl hI hr, fun i hi => ?_⟩
    obtain ⟨h0, o, ho, hall⟩ := mem_ready.1 hi
    have hlt : i < listed.size := by rw [hl]; exact (Array.getElem?_eq_some_iff.1 ho).1
    have hif : listed[i]? = some false := by
      rw [Array.getElem?_eq_getElem hlt]
      rw [Array.getD_eq_getD_getElem?, Array.getElem?_eq_getElem hlt] at h0
      have h0 : listed[i] = false := h0
      rw [h0]
    have hall' : ∀ e ∈ o.after, Region.binds .any e = true → listed[e.on]? = some true := fun e he hbd => by
      have h1 := hall e he hbd
      rw [Array.getD_eq_getD_getElem?] at h1
      cases hq : listed[e.on]? with
      | none => rw [hq] at h1; cases h1
      | some q => rw [hq] at h1; exact congrArg some h1
    have hlist : ∀ k : Nat, (listed.setIfInBounds i true)[k]? = some true ↔ listed[k]? = some true ∨ k = i := fun k => by
      by_cases hki : k = i
      · subst hki
        simp [hlt]
      · rw [Array.getElem?_setIfInBounds_ne (Ne.symm hki)]
        exact ⟨Or.inl, fun h => h.resolve_right hki⟩
    have hsame : ∀ k : Nat, k ≠ i → (listed.setIfInBounds i true)[k]? = listed[k]? := fun k hk => Array.getElem?_setIfInBounds_ne (Ne.symm hk)
    have next : ∀ (b' : Act) (w' : World), Inv ops a0 V W T z xs (listed.setIfInBounds i true) b' w' → wpAny P .any ops Q fuel (listed.setIfInBounds i true) b' w' := fun b' w' hI' => ih _ _ w' (by simp [hl]) (by
      have := count_set (l := listed.toList) (i := i) (by rw [Array.getElem?_toList]; exact hif)
      rw [Array.toList_setIfInBounds]
      omega) hI' (fun k y hy hk e he hbd => (hlist _).2 (Or.inl (by
        rcases (hlist k).1 hk with hk | rfl
        · exact hcl k y hy hk e he hbd
        · rw [ho] at hy
          cases hy
          exact hall' e he hbd)))
    obtain ⟨q, hA, hB, hq, hne⟩ := hI
    obtain ⟨c, hcA, hv⟩ := hT i o ho
    have sm : ∀ t ∈ o.looksAt ops, (∀ x ∈ xs, t ≠ x.dp) → b.tmps[t]? = c.tmps[t]? := fun t ht hn => Dnw.same F hA hcA ho hall' (fun e he hbd => F.back i o ho e he hbd) (fun k y hy ⟨e, he, hbd, hon⟩ hk => by
      have := hcl k y hy hk e he hbd
      rw [hon, hif] at this
      cases this) (fun k y hy ⟨e, he, hbd, hon⟩ hk => by
      have := F.back k y hy e he hbd
      omega) t ht fun k y hy hyd => vqs_out q xs V k fun x hx e => by
        obtain ⟨op, hp, _, hpd, _⟩ := (N x hx).made
        rw [e, hy] at hp
        cases hp
        rw [hyd] at hpd
        cases hpd
        exact hn x hx rfl
    rcases hv with ⟨⟨x, hx, hip⟩, hv⟩ | ⟨hv, x, hx, his, y', hyo, hye⟩ | ⟨hno, hv⟩
    · -- a block is made
      subst hip
      obtain ⟨op, hp, hpo, hpd, hpg⟩ := (N x hx).made
      rw [hp] at ho
      cases ho
      unfold Go.wpOp
      simp only [hp]
      rw [if_pos (by simp [Region.wanted, hpg])]
      refine .inl ?_
      unfold Oper.wp execOp
      simp only [hpo, Instr.alloc, Sem.run_bind, hz, Result.andThen_ok, newVar, newRow, Value.cells]
      have q2 : ∃ q2 : Nat → Value, (∀ k, k ≠ x.p → q2 k = q k) ∧ q2 x.p = .pointer (some ⟨w.heap.size, 0, none⟩) := ⟨fun k => if k = x.p then .pointer (some ⟨w.heap.size, 0, none⟩) else q k, fun k hk => if_neg hk, if_pos rfl⟩
      obtain ⟨q2, hq2, hq3⟩ := q2
      have hold : ∀ y ∈ xs, listed[y.p]? = some true → y.p ≠ x.p := fun y _ h e => by rw [e, hif] at h; cases h
      refine next _ _ ⟨q2, ?_, hB.alloc hB.size _, fun y hy h => ?_, fun y hy y2 hy2 hyn h h2 => ?_⟩
      · have hA1 : At ops a0 (vqs q2 xs V) (fun k => listed[k]? = some true) b := hA.to fun k hk => by
          have hki : k ≠ x.p := fun h => by subst h; rw [hif] at hk; cases hk
          by_cases hin : ∃ y ∈ xs, y.p = k
          · obtain ⟨y, hy, rfl⟩ := hin
            rw [vqs_in q xs V y hy, vqs_in q2 xs V y hy, hq2 _ hki]
          · rw [vqs_out q xs V k fun y hy e => hin ⟨y, hy, e⟩, vqs_out q2 xs V k fun y hy e => hin ⟨y, hy, e⟩]
        have := hA1.step F (E := fun k => (listed.setIfInBounds x.p true)[k]? = some true) hp hlist
        rw [vqs_in q2 xs V x hx, hq3] at this
        exact this
      · rcases (hlist _).1 h with h | h
        · obtain ⟨g, e1, e2, e3⟩ := hq y hy h
          refine ⟨g, by rw [hq2 _ (hold y hy h)]; exact e1, e2, ?_⟩
          rw [hsame y.s (Ne.symm (psne x hx y hy))]
          exact e3.alloc _
        · have hxy : y = x := (hps y hy x hx).1 h
          subst hxy
          refine ⟨w.heap.size, hq3, hB.size, ?_⟩
          have hns : ¬ (listed.setIfInBounds y.p true)[y.s]? = some true := fun h => by
            rw [hsame y.s (Ne.symm (psne y hx y hx))] at h
            obtain ⟨os, _, hs, _, _, _, _, e, he, hbd, hon⟩ := (N y hy).st
            have := hcl y.s os hs h e he hbd
            rw [hon, hif] at this
            cases this
          rw [if_neg hns]
          exact blk_new w z T
      · have nw : ∀ y ∈ xs, listed[y.p]? = some true → q2 y.p ≠ .pointer (some ⟨w.heap.size, 0, none⟩) := fun y hy h e => by
          obtain ⟨g, e1, e2, e3⟩ := hq y hy h
          rw [hq2 _ (hold y hy h), e1] at e
          have hg := e3.lt
          simp only [Value.pointer.injEq, Option.some.injEq, Addr.mk.injEq, and_true] at e
          omega
        rcases (hlist _).1 h with h | h <;> rcases (hlist _).1 h2 with h2 | h2
        · rw [hq2 _ (hold y hy h), hq2 _ (hold y2 hy2 h2)]
          exact hne y hy y2 hy2 hyn h h2
        · rw [h2, hq3]
          exact nw y hy h
        · rw [h, hq3]
          exact Ne.symm (nw y2 hy2 h2)
        · exact absurd (h.trans h2.symm) hyn
    · -- a store
      subst his
      obtain ⟨os, y, hs, hso, hsy, hsd, hsg, esp, hesp, hbsp, hosp⟩ := (N x hx).st
      obtain ⟨op, hp, hpo, hpd, hpg⟩ := (N x hx).made
      rw [hs] at ho
      cases ho
      have hpl : listed[x.p]? = some true := hosp ▸ hall' esp hesp hbsp
      obtain ⟨g, hqg, hg, hK⟩ := hq x hx hpl
      rw [if_neg (by rw [hif]; decide)] at hK
      have eyy : y' = y := by rw [hso] at hyo; cases hyo; rfl
      subst eyy
      have ex : b.eval (.tmp x.dp) = .pointer (some ⟨g, 0, none⟩) := by
        have := hA.told x.p op x.dp hpl hp hpd (hdp x hx)
        rw [vqs_in q xs V x hx, hqg] at this
        show b.tmps.getD x.dp undef = _
        rw [Array.getD_eq_getD_getElem?, this]; rfl
      have ey : b.eval y' = .agg x.cs := by
        rw [← hye]
        refine eval_same fun t ht => ?_
        subst ht
        have hlk : t ∈ o.looksAt ops := List.mem_append_left _ (List.mem_filterMap.2 ⟨.tmp t, by rw [hso]; simp [Op.operands], rfl⟩)
        refine sm t hlk fun u hu e => ?_
        by_cases hxu : u = x
        · exact hsy (by rw [e, hxu])
        · exact (N u hu).look x.s o hs (fun e2 => hxu ((hps u hu x hx).2 e2.symm)) (e ▸ hlk)
      unfold Go.wpOp
      simp only [hs]
      rw [if_pos (by simp [Region.wanted, hsg])]
      refine .inl ?_
      unfold Oper.wp execOp
      simp only [hso, ex, ey, Instr.storeAt, Instr.sureAddr, Sem.run_bind, Sem.run_pure, Result.andThen_ok, run_storeVar_row w g T T z x.cs hK (by rw [hsz, (N x hx).csize]) (by rw [hzn, (N x hx).csize]) (N x hx).one]
      have ht := turned_row w g x.cs
      refine next _ _ ⟨q, ?_, ht.below hB hg, fun u hu h => ?_, fun u hu u2 hu2 hun h h2 => ?_⟩
      · have := hA.step F (E := fun k => (listed.setIfInBounds x.s true)[k]? = some true) hs hlist
        rw [vqs_out q xs V x.s fun u hu e => psne u hu x hx e, hv] at this
        exact this
      · rw [hsame u.p (psne u hu x hx)] at h
        by_cases hux : u = x
        · subst hux
          exact ⟨g, hqg, hg, by rw [if_pos (by simp [hlt])]; exact hK.row u.cs⟩
        · obtain ⟨g2, e1, e2, e3⟩ := hq u hu h
          refine ⟨g2, e1, e2, ?_⟩
          have hgg : g2 ≠ g := fun e => by
            refine hne u hu x hx (fun e9 => hux ((hps u hu x hx).1 e9)) h hpl ?_
            rw [e1, hqg, e]
          rw [hsame u.s fun e9 => hux ((hps u hu x hx).2 e9)]
          exact ht.blk e3 hgg
      · rw [hsame u.p (psne u hu x hx)] at h
        rw [hsame u2.p (psne u2 hu2 x hx)] at h2
        exact hne u hu u2 hu2 hun h h2
    · -- another one
      have hnd : ∀ x ∈ xs, x.dp ∉ o.looksAt ops := fun x hx => (N x hx).look i o ho (Ne.symm (hno x hx).2)
      have sm' : ∀ t ∈ o.looksAt ops, b.tmps[t]? = c.tmps[t]? := fun t ht => sm t ht fun x hx e => hnd x hx (e ▸ ht)
      refine (hv.of_same (exec_same (fun cs b => F.sel i o cs b ho) sm') (wanted_same sm')).wpOp ho hB fun w' hw' => next _ _ ⟨q, ?_, hB.trans (hw'.mono hB.size), fun x hx h => ?_, fun x hx y hy hxy h h2 => ?_⟩
      · have := hA.step F (E := fun k => (listed.setIfInBounds i true)[k]? = some true) ho hlist
        rw [vqs_out q xs V i fun x hx e => (hno x hx).1 e] at this
        exact this
      · rw [hsame x.p (hno x hx).1] at h
        obtain ⟨g, e1, e2, e3⟩ := hq x hx h
        refine ⟨g, e1, e2, ?_⟩
        rw [hsame x.s (hno x hx).2]
        exact e3.keep hw'
      · rw [hsame x.p (hno x hx).1] at h
        rw [hsame y.p (hno y hy).1] at h2
        exact hne x hx y hy hxy h h2
theorem pw {R : Pr → Pr → Prop} : ∀ {xs : List Pr}, xs.Pairwise R → ∀ x ∈ xs, ∀ y ∈ xs, x = y ∨ R x y ∨ R y x
  | [], _, x, hx, _, _ => absurd hx (by simp)
  | u :: us, h, x, hx, y, hy => by
    rw [List.pairwise_cons] at h
    rcases List.mem_cons.1 hx with h3 | h3 <;> rcases List.mem_cons.1 hy with h4 | h4
    · exact Or.inl (h3.trans h4.symm)
    · exact Or.inr (Or.inl (h3 ▸ h.1 y h4))
    · exact Or.inr (Or.inr (h4 ▸ h.1 x h3))
    · exact pw h.2 x h3 y h4
/-- the beginning -/
theorem wp_region_mnew {id : Nat} {a : Act} {w : World} {l : List Oper} (xs : List Pr) (T : TypeId) (n : Nat) (z : Array Value) (hm : P.follows .mixedOrders = true) (hb : detB .any l.toArray = true) (hz : ∀ w, (zeroValue T).run P w = .ok (.agg z) w) (hsz : (P.info? T).map (·.size) = some n) (hzn : z.size = n)
    (N : ∀ x ∈ xs, New P l.toArray T n x) (hps : xs.Pairwise fun x y => x.p ≠ y.p ∧ x.s ≠ y.s) (hdp : ∀ x ∈ xs, x.dp < a.tmps.size)
    (h : wpDet P l.toArray Q w T xs 0 l a) : (Code.region id l.toArray true).wp P Q a w := by
  have F := fit_of hb
  obtain ⟨V, af, _, g2, g3, g4⟩ := ends F a l 0 a (fun _ => undef) (by simp) ⟨rfl, rfl, fun t _ => rfl, fun i y d hi => absurd hi (by omega)⟩ h
  have no : ∀ k : Nat, (Array.replicate l.toArray.size false)[k]? ≠ some true := fun k hk => by
    rw [Array.getElem?_replicate] at hk
    split at hk
    · cases hk
    · cases hk
  have hps' : ∀ x ∈ xs, ∀ y ∈ xs, (x.p = y.p → x = y) ∧ (x.s = y.s → x = y) := fun x hx y hy => by
    rcases pw hps x hx y hy with h | h | h
    · exact ⟨fun _ => h, fun _ => h⟩
    · exact ⟨fun e => absurd e h.1, fun e => absurd e h.2⟩
    · exact ⟨fun e => absurd e.symm h.1, fun e => absurd e.symm h.2⟩
  exact wp_region_any hm (anyOrder F N hz hsz hzn hps' hdp g2 g3 (fun j o ho => g4 j o (Nat.zero_le _) ho) _ _ _ _ (by simp) (by simp) ⟨fun _ => undef, ⟨rfl, rfl, fun t _ => rfl, fun i y d hi => absurd hi (no i)⟩, bq_drew (bq_refl w), fun x hx h => absurd h (no x.p), fun x hx y hy _ h => absurd h (no x.p)⟩ (fun k y hy hk => absurd hk (no k)))
/-- New, by what a kernel reckons -/
theorem new_of {x : Pr} {op os : Oper} {y : Operand} (hp : ops[x.p]? = some op) (hpo : op.op = .alloc T) (hpd : op.dst = some x.dp) (hpg : op.guard = none)
    (hs : ops[x.s]? = some os) (hso : os.op = .store T (.tmp x.dp) y) (hsy : y ≠ .tmp x.dp) (hsd : os.dst = none) (hsg : os.guard = none) (hsa : (os.after.any fun e => Region.binds .any e && e.on == x.p) = true)
    (hl : ((List.range ops.size).all fun i => i == x.s || match ops[i]? with | none => true | some o => !(o.looksAt ops).contains x.dp) = true) (hc : x.cs.size = n) (h1 : x.cs.all (·.oneCell') = true) : New P ops T n x := by
  refine ⟨⟨op, hp, hpo, hpd, hpg⟩, ⟨os, y, hs, hso, hsy, hsd, hsg, ?_⟩, fun i o ho hi => ?_, hc, h1⟩
  · obtain ⟨e, he, hb⟩ := Array.any_eq_true'.1 hsa
    simp only [Bool.and_eq_true, beq_iff_eq] at hb
    exact ⟨e, he, hb.1, hb.2⟩
  · rw [List.all_eq_true] at hl
    have := hl i (List.mem_range.2 (Array.getElem?_eq_some_iff.1 ho).1)
    rw [ho] at this
    simp only [Bool.or_eq_true, beq_iff_eq, Bool.not_eq_true'] at this
    rcases this with h | h
    · exact absurd h hi
    · intro hm
      rw [List.contains_iff_mem.2 hm] at h
      cases h
/-- the steps -/
theorem dm_alloc {k : Nat} {rest : List Oper} {o : Oper} {a : Act} (x : Pr) (hx : x ∈ xs) (hk : k = x.p) (h : wpDet P ops Q W T xs (k + 1) rest (a.put o.dst undef)) : wpDet P ops Q W T xs k (o :: rest) a := .inl ⟨⟨x, hx, hk⟩, h⟩
theorem dm_store {k : Nat} {rest : List Oper} {o : Oper} {a : Act} (x : Pr) (hx : x ∈ xs) (hk : k = x.s) (y : Operand) (ho : o.op = .store T (.tmp x.dp) y) (hy : a.eval y = .agg x.cs) (h : wpDet P ops Q W T xs (k + 1) rest (a.put o.dst undef)) : wpDet P ops Q W T xs k (o :: rest) a := .inr (.inl ⟨⟨x, hx, hk, y, ho, hy⟩, h⟩)
theorem dm_take {k : Nat} {rest : List Oper} {o : Oper} {a : Act} {v : Value} (hn : ∀ x ∈ xs, x.p ≠ k ∧ x.s ≠ k) (hw : Region.wanted o (yielded ops a.tmps) = true) (hv : ∀ w, Below W.heap.size W w → (execOp a.eval o).run P w = .ok (.value v) w) (h : wpDet P ops Q W T xs (k + 1) rest (a.put o.dst v)) : wpDet P ops Q W T xs k (o :: rest) a :=
  .inr (.inr ⟨hn, v, .inl ⟨hw, fun w hS => .inl ⟨w, hv w hS, bq_refl w⟩⟩, h⟩)
theorem dm_skip {k : Nat} {rest : List Oper} {o : Oper} {a : Act} (hn : ∀ x ∈ xs, x.p ≠ k ∧ x.s ≠ k) (hw : Region.wanted o (yielded ops a.tmps) = false) (h : wpDet P ops Q W T xs (k + 1) rest (a.put o.dst undef)) : wpDet P ops Q W T xs k (o :: rest) a :=
  .inr (.inr ⟨hn, undef, .inr ⟨hw, rfl⟩, h⟩)
theorem dm_call {k : Nat} {rest : List Oper} {o : Oper} {a : Act} {f : FuncId} {args : Array Value} {v : Value} (hn : ∀ x ∈ xs, x.p ≠ k ∧ x.s ≠ k) (hw : Region.wanted o (yielded ops a.tmps) = true) (hr : ∀ w, Below W.heap.size W w → (execOp a.eval o).run P w = .ok (.enter f args) w)
    (hc : ∀ w, Below W.heap.size W w → Calls P f args w fun e w' => e = .returned v ∧ Below w.heap.size w w') (h : wpDet P ops Q W T xs (k + 1) rest (a.put o.dst v)) : wpDet P ops Q W T xs k (o :: rest) a :=
  .inr (.inr ⟨hn, v, .inl ⟨hw, fun w hS => .inr ⟨f, args, w, hr w hS, hc w hS⟩⟩, h⟩)
theorem dm_nil2 {k : Nat} {a : Act} {x y : Pr} (h : ∀ w b c, Blk w b x.cs T → Blk w c y.cs T → W.heap.size ≤ b → W.heap.size ≤ c → Below W.heap.size W w → Q .normal ((a.put (some x.dp) (.pointer (some ⟨b, 0, none⟩))).put (some y.dp) (.pointer (some ⟨c, 0, none⟩))) w) : wpDet P ops Q W T [x, y] k [] a := fun w q hB hx => by
  obtain ⟨b, b1, b2, b3⟩ := hx x (by simp)
  obtain ⟨c, c1, c2, c3⟩ := hx y (by simp)
  have := h w b c b3 c3 b2 c2 hB
  rw [← b1, ← c1] at this
  exact this
theorem dm_nil3 {k : Nat} {a : Act} {x y u : Pr} (h : ∀ w b c d, Blk w b x.cs T → Blk w c y.cs T → Blk w d u.cs T → W.heap.size ≤ b → W.heap.size ≤ c → W.heap.size ≤ d → Below W.heap.size W w → Q .normal (((a.put (some x.dp) (.pointer (some ⟨b, 0, none⟩))).put (some y.dp) (.pointer (some ⟨c, 0, none⟩))).put (some u.dp) (.pointer (some ⟨d, 0, none⟩))) w) : wpDet P ops Q W T [x, y, u] k [] a := fun w q hB hx => by
  obtain ⟨b, b1, b2, b3⟩ := hx x (by simp)
  obtain ⟨c, c1, c2, c3⟩ := hx y (by simp)
  obtain ⟨d, d1, d2, d3⟩ := hx u (by simp)
  have := h w b c d b3 c3 d3 b2 c2 d2 hB
  rw [← b1, ← c1, ← d1] at this
  exact this
end
end Go.Proofs.Ytpeknlablcgchaa.Dmn
