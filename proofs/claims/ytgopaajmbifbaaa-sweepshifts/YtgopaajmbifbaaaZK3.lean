import Derived.Test.YtgopaajmbifbaaaZK2
import Derived.Test.YtgopaajmbifbaaaZK0
import Derived.Deep.MidRow
import Derived.Deep.Slices
import Derived.Laws.AppendOwn
import Derived.OwnWalk
namespace Go.Proofs.Ytgopaajmbifbaaa.Det
open Go
set_option linter.unusedVariables false
def lastB (md : Region.Mode) (ops : Array Oper) : Bool :=
  (List.range (ops.size - 1)).all fun i => (List.range ops.size).any fun j => decide (i < j) && match ops[j]? with
    | none => false
    | some y => y.after.any fun e => Region.binds md e && e.on == i
section
variable {P : Program} {ops : Array Oper} {Q : Exit → Act → World → Prop} {S : World → Prop} {md : Region.Mode}
theorem last_waits (h : lastB md ops = true) {listed : Array Bool} {x : Oper} (hx : ops[ops.size - 1]? = some x)
    (hcl : ∀ (j : Nat) (o : Oper), ops[j]? = some o → listed[j]? = some true → ∀ e ∈ o.after, Region.binds md e = true → listed[e.on]? = some true)
    (hall : ∀ e ∈ x.after, Region.binds md e = true → listed[e.on]? = some true) : ∀ k i : Nat, i < ops.size - 1 → ops.size - 1 - i ≤ k → listed[i]? = some true := by
  intro k
  induction k with
  | zero => intro i hi hk; omega
  | succ k ih =>
    intro i hi hk
    unfold lastB at h
    rw [List.all_eq_true] at h
    have h1 := h i (List.mem_range.2 hi)
    rw [List.any_eq_true] at h1
    obtain ⟨j, hj, h2⟩ := h1
    rw [Bool.and_eq_true, decide_eq_true_eq] at h2
    obtain ⟨hij, h2⟩ := h2
    have hjn := List.mem_range.1 hj
    cases hy : ops[j]? with
    | none => rw [hy] at h2; cases h2
    | some y =>
      rw [hy] at h2
      obtain ⟨e, he, hb⟩ := Array.any_eq_true'.1 h2
      simp only [Bool.and_eq_true, beq_iff_eq] at hb
      rw [← hb.2]
      by_cases hl : j = ops.size - 1
      · subst hl
        rw [hx] at hy
        cases hy
        exact hall e he hb.1
      · exact hcl j y hy (ih j (by omega) (by omega)) e he hb.1
theorem endsL (F : Fit md ops) (a0 : Act) (x : Oper) : ∀ (l : List Oper) (k : Nat) (a : Act) (V0 : Nat → Value), ops.toList.drop k = l ++ [x] → At ops a0 V0 (· < k) a → wpDet P ops Q S l a →
    ∃ (V : Nat → Value) (af : Act), (∀ i, i < k → V i = V0 i) ∧ (∀ w, S w → Q .normal af w) ∧ At ops a0 V (· < ops.size - 1) af ∧
      ∀ j o, k ≤ j → j < ops.size - 1 → ops[j]? = some o → ∃ c, At ops a0 V (· < j) c ∧ Tells P ops S o (V j) c := by
  intro l
  induction l with
  | nil =>
    intro k a V0 hl hA h
    have h1 : ops.size = k + 1 := by
      have := congrArg List.length hl
      simp at this
      omega
    have e : ops.size - 1 = k := by omega
    rw [e]
    exact ⟨V0, a, fun _ _ => rfl, h, hA, fun j o hj hj2 _ => by omega⟩
  | cons o l ih =>
    intro k a V0 hl hA h
    obtain ⟨v, hv, hrest⟩ := h
    have hk : ops[k]? = some o := by
      have := congrArg List.head? hl
      simpa [List.head?_drop] using this
    have hl' : ops.toList.drop (k + 1) = l ++ [x] := by
      rw [← List.drop_drop, hl]; rfl
    have hA1 : At ops a0 (fun i => if i = k then v else V0 i) (· < k) a := hA.to fun i hi => (if_neg (by omega)).symm
    have hA2 := hA1.step F (E := (· < k + 1)) hk (fun i => by omega)
    have ek : (if k = k then v else V0 k) = v := if_pos rfl
    rw [ek] at hA2
    obtain ⟨V, af, g1, g2, g3, g4⟩ := ih (k + 1) _ _ hl' hA2 hrest
    have hVk : V k = v := (g1 k (by omega)).trans ek
    refine ⟨V, af, fun i hi => (g1 i (by omega)).trans (if_neg (by omega)), g2, g3, fun j y hj hj2 hy => ?_⟩
    by_cases hjk : j = k
    · subst hjk
      rw [hk] at hy
      cases hy
      exact ⟨a, hA1.to fun i hi => (g1 i (by omega)).symm, by rw [hVk]; exact hv⟩
    · exact g4 j y (by omega) hj2 hy
theorem At.iff {a0 b : Act} {V : Nat → Value} {D E : Nat → Prop} (hb : At ops a0 V D b) (h : ∀ i, D i ↔ E i) : At ops a0 V E b :=
  ⟨hb.size, hb.defers, fun t ht => hb.old t fun i o hi ho => ht i o ((h i).1 hi) ho, fun i y d hi hy hd hlt => hb.told i y d ((h i).2 hi) hy hd hlt⟩
theorem At.eq {a0 b c : Act} {V : Nat → Value} {D : Nat → Prop} (hb : At ops a0 V D b) (hc : At ops a0 V D c) : b = c := by
  have ht : b.tmps = c.tmps := Array.ext_getElem? fun t => by
    by_cases hw : ∃ (i : Nat) (y : Oper), D i ∧ ops[i]? = some y ∧ y.dst = some t
    · obtain ⟨i, y, hi, hy, hyd⟩ := hw
      by_cases hsz : t < a0.tmps.size
      · rw [hb.told i y t hi hy hyd hsz, hc.told i y t hi hy hyd hsz]
      · rw [Array.getElem?_eq_none (by rw [hb.size]; exact Nat.le_of_not_lt hsz), Array.getElem?_eq_none (by rw [hc.size]; exact Nat.le_of_not_lt hsz)]
    · rw [hb.old t fun i y hi hy hyt => hw ⟨i, y, hi, hy, hyt⟩, hc.old t fun i y hi hy hyt => hw ⟨i, y, hi, hy, hyt⟩]
  have hd := hb.defers.trans hc.defers.symm
  cases b; cases c
  simp only at ht hd
  rw [ht, hd]
theorem all_listed (F : Fit md ops) {listed : Array Bool} (hl : listed.size = ops.size) (hr : Region.ready md ops listed = []) : ∀ j : Nat, j < ops.size → listed[j]? = some true := by
  have none : ∀ n j : Nat, j < n → listed[j]? ≠ some false := by
    intro n
    induction n with
    | zero => intro j hj; omega
    | succ n ih =>
      intro j hj hf
      by_cases hjn : j < n
      · exact ih j hjn hf
      · have hjn : j = n := by omega
        subst hjn
        have hlt : j < ops.size := by rw [← hl]; exact (Array.getElem?_eq_some_iff.1 hf).1
        have hj : j ∈ Region.ready md ops listed := mem_ready.2 ⟨by simp [hf], ops[j], Array.getElem?_eq_getElem hlt, fun e he hbd => by
          have he := F.back j ops[j] (Array.getElem?_eq_getElem hlt) e he hbd
          have h1 := ih e.on he
          have h2 : e.on < listed.size := by omega
          rw [Array.getElem?_eq_getElem h2] at h1
          rw [Array.getD_eq_getD_getElem?, Array.getElem?_eq_getElem h2]
          cases hc : listed[e.on] with
          | true => rfl
          | false => rw [hc] at h1; exact absurd rfl h1⟩
        rw [hr] at hj
        cases hj
  intro j hj
  have h1 := none (j + 1) j (by omega)
  have h2 : j < listed.size := by omega
  rw [Array.getElem?_eq_getElem h2] at h1 ⊢
  cases hc : listed[j] with
  | true => rfl
  | false => rw [hc] at h1; exact absurd rfl h1
theorem none_ready {listed : Array Bool} (h : ∀ j : Nat, j < ops.size → listed[j]? = some true) : Region.ready md ops listed = [] := by
  cases hr : Region.ready md ops listed with
  | nil => rfl
  | cons i is =>
    have hi : i ∈ Region.ready md ops listed := by rw [hr]; simp
    obtain ⟨h0, o, ho, _⟩ := mem_ready.1 hi
    have hlt := (Array.getElem?_eq_some_iff.1 ho).1
    rw [Array.getD_eq_getD_getElem?, h i hlt] at h0
    cases h0
theorem anyOrderL (F : Fit md ops) (hL : lastB md ops = true) {x : Oper} (hx : ops[ops.size - 1]? = some x) {a0 af : Act} {V : Nat → Value} (hQ : ∀ w, S w → wpList P ops Q [x] af w) (hf : At ops a0 V (· < ops.size - 1) af)
    (hT : ∀ (j : Nat) (o : Oper), j < ops.size - 1 → ops[j]? = some o → ∃ c, At ops a0 V (· < j) c ∧ Tells P ops S o (V j) c) :
    ∀ (fuel : Nat) (listed : Array Bool) (b : Act) (w : World), listed.size = ops.size → listed.toList.count false ≤ fuel → listed[ops.size - 1]? = some false → At ops a0 V (fun i => listed[i]? = some true) b →
      (∀ (j : Nat) (o : Oper), ops[j]? = some o → listed[j]? = some true → ∀ e ∈ o.after, Region.binds md e = true → listed[e.on]? = some true) → S w → wpAny P md ops Q fuel listed b w := by
  intro fuel
  induction fuel with
  | zero =>
    intro listed b w hl hc hn hb hcl hS
    have : false ∈ listed.toList := by
      have hlt := (Array.getElem?_eq_some_iff.1 hn)
      rw [← hlt.2]
      exact Array.getElem_mem_toList hlt.1
    have := List.count_pos_iff.2 this
    omega
  | succ fuel ih =>
    intro listed b w hl hc hn hb hcl hS
    have hsz : ops.size - 1 < ops.size := (Array.getElem?_eq_some_iff.1 hx).1
    refine ⟨fun hr => ?_, fun i hi => ?_⟩
    · have := all_listed F hl hr _ hsz
      rw [hn] at this
      cases this
    · obtain ⟨h0, o, ho, hall⟩ := mem_ready.1 hi
      have hlt : i < listed.size := by rw [hl]; exact (Array.getElem?_eq_some_iff.1 ho).1
      have hif : listed[i]? = some false := by
        rw [Array.getElem?_eq_getElem hlt]
        rw [Array.getD_eq_getD_getElem?, Array.getElem?_eq_getElem hlt] at h0
        have h0 : listed[i] = false := h0
        rw [h0]
      have hall' : ∀ e ∈ o.after, Region.binds md e = true → listed[e.on]? = some true := fun e he hbd => by
        have h1 := hall e he hbd
        rw [Array.getD_eq_getD_getElem?] at h1
        cases hq : listed[e.on]? with
        | none => rw [hq] at h1; cases h1
        | some q => rw [hq] at h1; exact congrArg some h1
      have hlist : ∀ k : Nat, (listed.setIfInBounds i true)[k]? = some true ↔ listed[k]? = some true ∨ k = i := fun k => by
        by_cases hki : k = i
        · subst hki
          simp [hlt]
        · rw [Array.getElem?_setIfInBounds_ne (Ne.symm hki)]
          exact ⟨Or.inl, fun h => h.resolve_right hki⟩
      by_cases hin : i = ops.size - 1
      · subst hin
        rw [hx] at ho
        cases ho
        have hw := last_waits hL hx hcl hall'
        have hD : ∀ k : Nat, listed[k]? = some true ↔ k < ops.size - 1 := fun k => by
          constructor
          · intro hk
            have h1 := (Array.getElem?_eq_some_iff.1 hk).1
            apply Decidable.byContradiction
            intro h2
            obtain rfl : k = ops.size - 1 := by omega
            rw [hif] at hk
            cases hk
          · intro hk
            exact hw _ k hk (Nat.le_refl _)
        obtain rfl : b = af := (hb.iff hD).eq hf
        have hdone : ∀ (a : Act) (w : World), Q .normal a w → wpAny P md ops Q fuel (listed.setIfInBounds (ops.size - 1) true) a w := fun a w h => by
          have hr : Region.ready md ops (listed.setIfInBounds (ops.size - 1) true) = [] := none_ready fun j hj => (hlist j).2 (by
            by_cases hj2 : j = ops.size - 1
            · exact Or.inr hj2
            · exact Or.inl ((hD j).2 (by omega)))
          cases fuel with
          | zero => exact ⟨hr, h⟩
          | succ fuel => exact ⟨fun _ => h, fun j hj => by rw [hr] at hj; cases hj⟩
        have hq := hQ w hS
        unfold wpList at hq
        unfold Go.wpOp
        simp only [hx]
        split
        · rename_i hwn
          rw [if_pos hwn] at hq
          exact hq.imp (Oper.wp_mono fun a w h => hdone a w h) id
        · rename_i hwn
          rw [if_neg hwn] at hq
          exact hdone _ _ hq
      · obtain ⟨c, hcA, hv⟩ := hT i o (by have := (Array.getElem?_eq_some_iff.1 ho).1; omega) ho
        have same := hb.same F hcA ho hall' (fun e he hbd => F.back i o ho e he hbd) (fun k y hy ⟨e, he, hbd, hon⟩ hk => by
          have := hcl k y hy hk e he hbd
          rw [hon, hif] at this
          cases this) (fun k y hy ⟨e, he, hbd, hon⟩ hk => by
          have := F.back k y hy e he hbd
          omega)
        refine (hv.of_same (exec_same (fun cs b => F.sel i o cs b ho) same) (wanted_same same)).wpOp ho hS fun w' hS' => ?_
        refine ih _ _ w' (by simp [hl]) ?_ (by rw [Array.getElem?_setIfInBounds_ne hin]; exact hn) (hb.step F ho hlist) (fun k y hy hk e he hbd => ?_) hS'
        · have := count_set (l := listed.toList) (i := i) (by rw [Array.getElem?_toList]; exact hif)
          rw [Array.toList_setIfInBounds]
          omega
        · refine (hlist _).2 (Or.inl ?_)
          rcases (hlist k).1 hk with hk | rfl
          · exact hcl k y hy hk e he hbd
          · rw [ho] at hy
            cases hy
            exact hall' e he hbd
theorem wp_region_last {id : Nat} {a : Act} {w : World} {l : List Oper} {x : Oper} (n : Nat) (hm : P.follows .mixedOrders = true) (hb : detB .any l.toArray = true) (hL : lastB .any l.toArray = true) (hx : l.drop n = [x]) (hS : S w.drew)
    (h : wpDet P l.toArray (fun _ a w => wpList P l.toArray Q [x] a w) S (l.take n) a) : (Code.region id l.toArray true).wp P Q a w := by
  have F := fit_of hb
  have hl : l = l.take n ++ [x] := by rw [← hx, List.take_append_drop]
  obtain ⟨V, af, _, g2, g3, g4⟩ := endsL F a x (l.take n) 0 a (fun _ => undef) (by simpa using hl) ⟨rfl, rfl, fun t _ => rfl, fun i y d hi => absurd hi (by omega)⟩ h
  have aux : ∀ l pre : List Oper, l = pre ++ [x] → l.toArray[l.toArray.size - 1]? = some x := by
    rintro l pre rfl
    simp
  have hxl := aux l _ hl
  have no : ∀ k : Nat, (Array.replicate l.toArray.size false)[k]? ≠ some true := fun k hk => by
    rw [Array.getElem?_replicate] at hk
    split at hk
    · cases hk
    · cases hk
  exact wp_region_any hm (anyOrderL F hL hxl g2 g3 (fun j o hj ho => g4 j o (Nat.zero_le _) hj ho) _ _ _ _ (by simp) (by simp) (by rw [Array.getElem?_replicate, if_pos (Array.getElem?_eq_some_iff.1 hxl).1]) ⟨rfl, rfl, fun t _ => rfl, fun i y d hi => absurd hi (no i)⟩ (fun k y hy hk => absurd hk (no k)) hS)
end
end Go.Proofs.Ytgopaajmbifbaaa.Det
namespace Go.Proofs.Ytgopaajmbifbaaa
open Go.RowKit
set_option linter.unusedVariables false
set_option linter.unusedSimpArgs false
set_option maxRecDepth 100000
theorem szPt : (Try.prog.info? 25).map (·.size) = some 2 := by kernel_rfl
theorem zePt (w : World) : (zeroValue 25).run Try.prog w = .ok (.agg #[.int .i64 0, .int .i64 0]) w := Try.zeroValue25 w
theorem w64 (x : Int) (h : (-9223372036854775808 ≤ x ∧ x ≤ 9223372036854775807)) : wrap64 x = x := by unfold wrap64; omega
theorem wI (x : Int) (h : (-9223372036854775808 ≤ x ∧ x ≤ 9223372036854775807)) : IntKind.i64.wrap x = x := by rw [IntKind.wrap_i64]; omega
theorem run_min2 {P : Program} (w : World) (ts : Array TypeId) (t : TypeId) (k k1 : IntKind) (x y : Int) : (Builtin.min_ ts t #[.int k x, .int k1 y]).run P w = .ok (.int k (min x y)) w := by
  have e : (if y < x then y else x) = min x y := by
    rw [Int.min_def]
    split <;> split <;> omega
  simp [Builtin.min_, Builtin.min2, e]
theorem run_max2 {P : Program} (w : World) (ts : Array TypeId) (t : TypeId) (k k1 : IntKind) (x y : Int) : (Builtin.max_ ts t #[.int k x, .int k1 y]).run P w = .ok (.int k (max x y)) w := by
  have e : (if x < y then y else x) = max x y := by
    rw [Int.max_def]
    split <;> split <;> omega
  simp [Builtin.max_, Builtin.max2, e]
def ptC (p : Int × Int) : List Value := [.int .i64 p.1, .int .i64 p.2]
set_option maxHeartbeats 1000000 in
theorem evenPart_core (x r : Int) (q : Bool) (w : World) (hr : x.tmod 2 = r) (hq : x < -16777216 ∧ q = false ∨ -16777216 ≤ x ∧ 16777216 < x ∧ q = false ∨ -16777216 ≤ x ∧ x ≤ 16777216 ∧ q = (r == 0)) :
    Calls Try.prog 39 #[.int .i64 x] w fun e w' => e = .returned (.bool q) ∧ w = w' := by
  rcases hq with ⟨h1, rfl⟩ | ⟨h1, h2, rfl⟩ | ⟨h1, h2, h3⟩
  · go_enter Try.func39, Try.ntmps39
    go_wp2_with fail
    go_ret
    exact ⟨by first | rfl | exact ret_bool (by simp; try omega), rfl⟩
  · go_enter Try.func39, Try.ntmps39
    go_wp2_with fail
    go_ret
    exact ⟨by first | rfl | exact ret_bool (by simp; try omega), rfl⟩
  · have H3 := Lib.hid h3
    clear h3
    go_enter Try.func39, Try.ntmps39
    go_wp2_with fail
    go_ret
    exact ⟨ret_bool H3.out.symm, rfl⟩
theorem evenPart_any (x : Int) (w : World) : Calls Try.prog 39 #[.int .i64 x] w fun e w' => e = .returned (.bool (evB x)) ∧ Below w.heap.size w w' := by
  refine (evenPart_core x _ (evB x) w rfl ?_).mono fun e w' ⟨h1, h2⟩ => ⟨h1, h2 ▸ bq_refl w⟩
  by_cases h1 : x < -16777216
  · exact Or.inl ⟨h1, by simp [evB]; omega⟩
  · by_cases h2 : 16777216 < x
    · exact Or.inr (Or.inl ⟨by omega, h2, by simp [evB]; omega⟩)
    · refine Or.inr (Or.inr ⟨by omega, by omega, ?_⟩)
      have e : (x.tmod 2 = 0) ↔ x % 2 = 0 := by
        rcases (show 0 ≤ x ∨ x < 0 by omega) with h | h
        · rw [Int.tmod_eq_emod_of_nonneg h]
        · have h2 := Int.neg_tmod (-x) 2
          rw [Int.neg_neg, Int.tmod_eq_emod_of_nonneg (show 0 ≤ -x by omega)] at h2
          omega
      rw [Bool.eq_iff_iff]
      simp [evB]
      omega
set_option maxHeartbeats 1000000 in
theorem even16_core (x y : Int) (q1 q2 : Bool) (w : World) (H1 : Hid (∀ W, Calls Try.prog 39 #[.int .i64 x] W fun e w' => e = .returned (.bool q1) ∧ Below W.heap.size W w')) (H2 : Hid (∀ W, Calls Try.prog 39 #[.int .i64 y] W fun e w' => e = .returned (.bool q2) ∧ Below W.heap.size W w')) :
    Calls Try.prog 34 #[.agg #[.int .i64 x, .int .i64 y]] w fun e w' => e = .returned (.bool (q1 && q2)) ∧ Below w.heap.size w w' := by
  cases q1
  · go_enter Try.func34, Try.ntmps34
    go_upto_region 1 with (go_big_may; first
      | (refine wl_box 25 _ _ rfl rfl (show _ = Value.agg #[.int .i64 x, .int .i64 y] from rfl) ?_; intro W1 bp Bp_1 l1 k1; have gp : w.heap.size ≤ bp := l1; have Hw1 := k1; clear l1 k1; have cp_0_1 : W1.cell? ⟨bp, 0, none⟩ = some (.int .i64 x) := Bp_1.cell 0; have cp_1_1 : W1.cell? ⟨bp, 1, none⟩ = some (.int .i64 y) := Bp_1.cell 1))
    go_wp2_with (first
      | (go_at_call 39; (with_reducible refine (H1.out _).mono ?_); rintro e W2 ⟨rfl, k2⟩; have Bp_2 := Bp_1.keep k2; have Hw2 := bq_trans Hw1 k2; clear k2 Bp_1 cp_0_1 cp_1_1 Hw1))
    go_ret
    exact ⟨rfl, Hw2⟩
  · go_enter Try.func34, Try.ntmps34
    go_upto_region 1 with (go_big_may; first
      | (refine wl_box 25 _ _ rfl rfl (show _ = Value.agg #[.int .i64 x, .int .i64 y] from rfl) ?_; intro W1 bp Bp_1 l1 k1; have gp : w.heap.size ≤ bp := l1; have Hw1 := k1; clear l1 k1; have cp_0_1 : W1.cell? ⟨bp, 0, none⟩ = some (.int .i64 x) := Bp_1.cell 0; have cp_1_1 : W1.cell? ⟨bp, 1, none⟩ = some (.int .i64 y) := Bp_1.cell 1))
    go_wp2_with (first
      | (go_at_call 39; (with_reducible refine (H1.out _).mono ?_); rintro e W2 ⟨rfl, k2⟩; have Bp_2 := Bp_1.keep k2; have Hw2 := bq_trans Hw1 k2; clear k2 Bp_1 cp_0_1 cp_1_1 Hw1; have cp_1_2 : W2.cell? ⟨bp, 1, none⟩ = some (.int .i64 y) := Bp_2.cell 1)
      | (go_at_call 39; (with_reducible refine (H2.out _).mono ?_); rintro e W3 ⟨rfl, k3⟩; have Bp_3 := Bp_2.keep k3; have Hw3 := bq_trans Hw2 k3; clear k3 Bp_2 cp_1_2 Hw2))
    go_ret
    exact ⟨by rw [Bool.true_and]; rfl, Hw3⟩
theorem even16_any (x y : Int) (w : World) : Calls Try.prog 34 #[.agg #[.int .i64 x, .int .i64 y]] w fun e w' => e = .returned (.bool (evP x y)) ∧ Below w.heap.size w w' :=
  even16_core x y _ _ w (Lib.hid (evenPart_any x)) (Lib.hid (evenPart_any y))
def allE (ax ay bx by1 cx cy : Int) : Bool := evP ax ay && evP bx by1 && evP cx cy
abbrev In24 (x : Int) : Prop := -16777216 ≤ x ∧ x ≤ 16777216
end Go.Proofs.Ytgopaajmbifbaaa
namespace Go.Proofs.Ytgopaajmbifbaaa
open Go.RowKit
set_option linter.unusedVariables false
set_option linter.unusedSimpArgs false
set_option maxRecDepth 100000
theorem ev_ways (x : Int) : Hid (x.tmod 2 ≠ 0 ∧ evB x = false ∨ x.tmod 2 = 0 ∧ 16777216 < x ∧ evB x = false ∨ x.tmod 2 = 0 ∧ x ≤ 16777216 ∧ x < -16777216 ∧ evB x = false ∨ x.tmod 2 = 0 ∧ x ≤ 16777216 ∧ -16777216 ≤ x ∧ evB x = true) := Lib.hid (by
  have e : (x.tmod 2 = 0) ↔ x % 2 = 0 := by
    rcases (show 0 ≤ x ∨ x < 0 by omega) with h | h
    · rw [Int.tmod_eq_emod_of_nonneg h]
    · have h2 := Int.neg_tmod (-x) 2
      rw [Int.neg_neg, Int.tmod_eq_emod_of_nonneg (show 0 ≤ -x by omega)] at h2
      omega
  by_cases h0 : x.tmod 2 = 0
  · by_cases h1 : 16777216 < x
    · exact Or.inr (Or.inl ⟨h0, h1, by simp [evB]; omega⟩)
    · by_cases h2 : x < -16777216
      · exact Or.inr (Or.inr (Or.inl ⟨h0, by omega, h2, by simp [evB]; omega⟩))
      · exact Or.inr (Or.inr (Or.inr ⟨h0, by omega, by omega, by simp [evB]; omega⟩))
  · exact Or.inl ⟨h0, by simp [evB]; omega⟩)
set_option maxHeartbeats 2000000 in
theorem reven16_core (x y : Int) (w : World) (HX : Hid (x.tmod 2 ≠ 0 ∧ evB x = false ∨ x.tmod 2 = 0 ∧ 16777216 < x ∧ evB x = false ∨ x.tmod 2 = 0 ∧ x ≤ 16777216 ∧ x < -16777216 ∧ evB x = false ∨ x.tmod 2 = 0 ∧ x ≤ 16777216 ∧ -16777216 ≤ x ∧ evB x = true)) (HY : Hid (y.tmod 2 ≠ 0 ∧ evB y = false ∨ y.tmod 2 = 0 ∧ 16777216 < y ∧ evB y = false ∨ y.tmod 2 = 0 ∧ y ≤ 16777216 ∧ y < -16777216 ∧ evB y = false ∨ y.tmod 2 = 0 ∧ y ≤ 16777216 ∧ -16777216 ≤ y ∧ evB y = true)) :
    Calls Try.prog 25 #[.agg #[.int .i64 x, .int .i64 y]] w fun e w' => e = .returned (.bool (evP x y)) ∧ Below w.heap.size w w' := by
  go_enter Try.func25, Try.ntmps25
  go_upto_region 1 with (go_big_may; first
    | (refine wl_box 25 _ _ rfl rfl (show _ = Value.agg #[.int .i64 x, .int .i64 y] from rfl) ?_; intro W1 bp Bp_1 l1 k1; have gp : w.heap.size ≤ bp := l1; have Hw1 := k1; clear l1 k1; have cp_0_1 : W1.cell? ⟨bp, 0, none⟩ = some (.int .i64 x) := Bp_1.cell 0; have cp_1_1 : W1.cell? ⟨bp, 1, none⟩ = some (.int .i64 y) := Bp_1.cell 1))
  go_wp2_with (first
    | (refine wlg_slice 37 3 2 _ _ (ints2_run x y) _ rfl rfl rfl ?_; intro W2 bs Bs_2 l2 k2; have gs : w.heap.size ≤ bs := Nat.le_trans Hw1.size l2; have nps : bp ≠ bs := Nat.ne_of_lt (Nat.lt_of_lt_of_le Bp_1.lt l2); have Bp_2 := Bp_1.keep k2; have Hw2 := bq_trans Hw1 k2; clear l2 k2 Bp_1 cp_0_1 cp_1_1 Hw1))
  go_loopw [11] (fun i wr => (i = .int .i64 0 ∨ i = .int .i64 1 ∧ evB x = true ∨ i = .int .i64 2 ∧ evB x = true ∧ evB y = true) ∧ Blk wr bs (iA [x, y]) 3 ∧ Below w.heap.size w wr) (fun i _ => 2 - (intOf i).toNat)
  case atStart => exact ⟨Or.inl rfl, Bs_2, Hw2⟩
  case round =>
    obtain ⟨hd, Bs, HwR⟩ := hrel
    clear Bp_2 Bs_2 Hw2
    rcases hd with rfl | ⟨rfl, hx⟩ | ⟨rfl, hx, hy⟩
    · have cu : wr.cell? ⟨bs, 0, none⟩ = some (.int .i64 x) := Bs.cell 0
      rcases HX.out with ⟨h0, h9⟩ | ⟨h0, h1, h9⟩ | ⟨h0, h1, h2, h9⟩ | ⟨h0, h1, h2, h9⟩
      · have h0 : (x.tmod 2 == 0) = false := beq_eq_false_iff_ne.2 h0
        have HR : Hid (evP x y = false) := Lib.hid (by unfold evP; rw [h9]; rfl)
        clear h9
        go_wp2_with fail
        go_ret
        exact ⟨ret_bool HR.out.symm, HwR⟩
      · skip
        have HR : Hid (evP x y = false) := Lib.hid (by unfold evP; rw [h9]; rfl)
        clear h9
        go_wp2_with fail
        go_ret
        exact ⟨ret_bool HR.out.symm, HwR⟩
      · skip
        have HR : Hid (evP x y = false) := Lib.hid (by unfold evP; rw [h9]; rfl)
        clear h9
        go_wp2_with fail
        go_ret
        exact ⟨ret_bool HR.out.symm, HwR⟩
      · skip
        have H9 := Lib.hid h9
        clear h9
        go_wp2_with fail
        go_roundw
        case rel => exact ⟨Or.inr (Or.inl ⟨rfl, H9.out⟩), Bs, HwR⟩
        case measure => simp [intOf]
    · have cu : wr.cell? ⟨bs, 1, none⟩ = some (.int .i64 y) := Bs.cell 1
      rcases HY.out with ⟨h0, h9⟩ | ⟨h0, h1, h9⟩ | ⟨h0, h1, h2, h9⟩ | ⟨h0, h1, h2, h9⟩
      · have h0 : (y.tmod 2 == 0) = false := beq_eq_false_iff_ne.2 h0
        have HR : Hid (evP x y = false) := Lib.hid (by unfold evP; rw [h9]; rw [hx]; rfl)
        clear h9 hx
        go_wp2_with fail
        go_ret
        exact ⟨ret_bool HR.out.symm, HwR⟩
      · skip
        have HR : Hid (evP x y = false) := Lib.hid (by unfold evP; rw [h9]; rw [hx]; rfl)
        clear h9 hx
        go_wp2_with fail
        go_ret
        exact ⟨ret_bool HR.out.symm, HwR⟩
      · skip
        have HR : Hid (evP x y = false) := Lib.hid (by unfold evP; rw [h9]; rw [hx]; rfl)
        clear h9 hx
        go_wp2_with fail
        go_ret
        exact ⟨ret_bool HR.out.symm, HwR⟩
      · have HXX := Lib.hid hx
        have H9 := Lib.hid h9
        clear h9 hx
        go_wp2_with fail
        go_roundw
        case rel => exact ⟨Or.inr (Or.inr ⟨rfl, HXX.out, H9.out⟩), Bs, HwR⟩
        case measure => simp [intOf]
    · have HR : Hid (evP x y = true) := Lib.hid (evP_of hx hy)
      clear hx hy
      go_wp2_with fail
      go_ret
      exact ⟨ret_bool HR.out.symm, HwR⟩
theorem reven16_any (x y : Int) (w : World) : Calls Try.prog 25 #[.agg #[.int .i64 x, .int .i64 y]] w fun e w' => e = .returned (.bool (evP x y)) ∧ Below w.heap.size w w' := reven16_core x y w (ev_ways x) (ev_ways y)
end Go.Proofs.Ytgopaajmbifbaaa
namespace Go.Proofs.Ytgopaajmbifbaaa.M2
theorem neg_iff (a b : Int) : decide (a * b < 0) = ((decide (a < 0) != decide (b < 0)) && (a != 0) && (b != 0)) := by
  have hz : a = 0 ∨ b = 0 → a * b = 0 := by rintro (h | h) <;> subst h <;> simp
  rcases Int.lt_trichotomy a 0 with h | h | h <;> rcases Int.lt_trichotomy b 0 with k | k | k
  · have := Int.mul_pos_of_neg_of_neg h k
    have e1 : decide (a < 0) = true := by simpa using h
    have e2 : decide (b < 0) = true := by simpa using k
    have e3 : decide (a * b < 0) = false := by simp; omega
    simp [e1, e2, e3]
  · subst k; simp
  · have := Int.mul_neg_of_neg_of_pos h k
    have e1 : decide (a < 0) = true := by simpa using h
    have e2 : decide (b < 0) = false := by simp; omega
    have e3 : decide (a * b < 0) = true := by simpa using this
    have e4 : (a != 0) = true := by simp; omega
    have e5 : (b != 0) = true := by simp; omega
    simp [e1, e2, e3, e4, e5]
  · subst h; simp
  · subst h; simp
  · subst h; simp
  · have := Int.mul_neg_of_pos_of_neg h k
    have e1 : decide (a < 0) = false := by simp; omega
    have e2 : decide (b < 0) = true := by simpa using k
    have e3 : decide (a * b < 0) = true := by simpa using this
    have e4 : (a != 0) = true := by simp; omega
    have e5 : (b != 0) = true := by simp; omega
    simp [e1, e2, e3, e4, e5]
  · subst k; simp
  · have := Int.mul_pos h k
    have e1 : decide (a < 0) = false := by simp; omega
    have e2 : decide (b < 0) = false := by simp; omega
    have e3 : decide (a * b < 0) = false := by simp; omega
    simp [e1, e2, e3]
end Go.Proofs.Ytgopaajmbifbaaa.M2
namespace Go.Proofs.Ytgopaajmbifbaaa
open Go.RowKit
theorem natAbs_lt (a : Int) (a0 : -9223372036854775808 ≤ a) (a1 : a ≤ 9223372036854775807) : a.natAbs < 18446744073709551616 := by omega
set_option maxHeartbeats 1000000 in
theorem product_core (a b : Int) (w : World) (a0 : -9223372036854775808 ≤ a) (a1 : a ≤ 9223372036854775807) (b0 : -9223372036854775808 ≤ b) (b1 : b ≤ 9223372036854775807)
    (s t u v : Bool) (c1 : decide (a < 0) = s) (c2 : decide (b < 0) = t) (c3 : (a != 0) = u) (c4 : (b != 0) = v) (k1 : (s && !u) = false) (k2 : (t && !v) = false) (hr : Hid (pneg a b = ((s != t) && u && v))) :
    Calls Try.prog 44 #[.int .i64 a, .int .i64 b] w fun e w' => e = .returned (.agg #[.bool (pneg a b), .int .u64 (phi a b), .int .u64 (plo a b)]) ∧ Below w.heap.size w w' := by
  have na := Lib.hid (natAbs_lt a a0 a1)
  have nb := Lib.hid (natAbs_lt b b0 b1)
  unfold phi plo
  rw [hr.out]
  clear hr
  cases s <;> cases u <;> simp at k1 <;> clear k1 <;> cases t <;> cases v <;> simp at k2 <;> clear k2
  all_goals
    go_enter Try.func44, Try.ntmps44
    go_wp2_with (first | (go_at_call 49; refine (size_any _ _ (by omega) (by omega)).mono ?_; rintro e w' ⟨rfl, rfl⟩) | (go_at_call 48; refine (mul64_any _ _ na.out nb.out _).mono ?_; rintro e w' ⟨rfl, rfl⟩))
    exact bodyPost_ret (v := .agg #[.bool _, .int .u64 _, .int .u64 _]) (by simp [results, Try.results44, go_sem]) rfl ⟨rfl, (Below.refl _ _).alloc (Nat.le_refl _) _⟩
theorem product_any (a b : Int) (w : World) (a0 : -9223372036854775808 ≤ a) (a1 : a ≤ 9223372036854775807) (b0 : -9223372036854775808 ≤ b) (b1 : b ≤ 9223372036854775807) :
    Calls Try.prog 44 #[.int .i64 a, .int .i64 b] w fun e w' => e = .returned (.agg #[.bool (pneg a b), .int .u64 (phi a b), .int .u64 (plo a b)]) ∧ Below w.heap.size w w' :=
  product_core a b w a0 a1 b0 b1 _ _ _ _ rfl rfl rfl rfl (by simp; omega) (by simp; omega) (Lib.hid (M2.neg_iff a b))
theorem p_bounds (a b : Int) : 0 ≤ phi a b ∧ 0 ≤ plo a b ∧ plo a b < 18446744073709551616 ∧ ((a * b).natAbs : Int) = phi a b * 18446744073709551616 + plo a b := by
  unfold phi plo
  rw [Int.natAbs_mul]
  generalize a.natAbs * b.natAbs = n
  omega
theorem p_sign (a b : Int) : pneg a b = decide (a * b < 0) := rfl
end Go.Proofs.Ytgopaajmbifbaaa
namespace Go.Proofs.Ytgopaajmbifbaaa
open Go.RowKit
def ordw (h1 l1 h2 l2 : Int) : Int := if h1 * 18446744073709551616 + l1 < h2 * 18446744073709551616 + l2 then -1 else if h1 * 18446744073709551616 + l1 = h2 * 18446744073709551616 + l2 then 0 else 1
set_option maxHeartbeats 2000000 in
theorem order_core (b1 b2 : Bool) (h1 l1 h2 l2 : Int) (w : World) (s t u v : Bool) (c1 : decide (h1 < h2) = s) (c2 : (h1 == h2) = t) (c3 : decide (l1 < l2) = u) (c4 : (l1 == l2) = v) (x : Int)
    (k1 : (s && t) = false) (k2 : (u && v) = false) (hx : Hid (x = if s || (t && u) then -1 else if t && v then 0 else 1)) :
    Calls Try.prog 45 #[.agg #[.bool b1, .int .u64 h1, .int .u64 l1], .agg #[.bool b2, .int .u64 h2, .int .u64 l2]] w fun e w' => e = .returned (.int .i64 x) ∧ Below w.heap.size w w' := by
  cases s <;> cases t <;> simp at k1 <;> clear k1 <;> cases u <;> cases v <;> simp at k2 <;> clear k2
  all_goals
    have hx' := hx.out
    simp at hx'
    subst hx'
    clear hx
    go_enter Try.func45, Try.ntmps45
    go_wp2
    go_ret
    exact ⟨rfl, ((Below.refl _ _).alloc (Nat.le_refl _) _).alloc (by simp) _⟩
theorem order_any (b1 b2 : Bool) (h1 l1 h2 l2 : Int) (w : World) (p1 : 0 ≤ l1) (p2 : l1 < 18446744073709551616) (p3 : 0 ≤ l2) (p4 : l2 < 18446744073709551616) :
    Calls Try.prog 45 #[.agg #[.bool b1, .int .u64 h1, .int .u64 l1], .agg #[.bool b2, .int .u64 h2, .int .u64 l2]] w fun e w' => e = .returned (.int .i64 (ordw h1 l1 h2 l2)) ∧ Below w.heap.size w w' := by
  refine order_core b1 b2 h1 l1 h2 l2 w _ _ _ _ rfl rfl rfl rfl _ (by simp; omega) (by simp; omega) (Lib.hid ?_)
  unfold ordw
  simp
  repeat' split
  all_goals omega
end Go.Proofs.Ytgopaajmbifbaaa
namespace Go.Proofs.Ytgopaajmbifbaaa.M3
def rt : Nat → Nat → Nat → Nat
  | 0, r, _ => r
  | k + 1, r, n => if (r + 2 ^ k) * (r + 2 ^ k) ≤ n then rt k (r + 2 ^ k) n else rt k r n
def root (n : Nat) : Nat := rt 32 0 n
end Go.Proofs.Ytgopaajmbifbaaa.M3
namespace Go.Proofs.Ytgopaajmbifbaaa
open Go.RowKit
def cmp4 (a b c d : Int) : Int := if a * b < c * d then -1 else if a * b = c * d then 0 else 1
set_option maxHeartbeats 1000000 in
theorem compare_core (a b c d : Int) (w : World) (a0 : -9223372036854775808 ≤ a) (a1 : a ≤ 9223372036854775807) (b0 : -9223372036854775808 ≤ b) (b1 : b ≤ 9223372036854775807)
    (c0 : -9223372036854775808 ≤ c) (c1 : c ≤ 9223372036854775807) (d0 : -9223372036854775808 ≤ d) (d1 : d ≤ 9223372036854775807) (s t : Bool) (k1 : pneg a b = s) (k2 : pneg c d = t) (x : Int)
    (P1 : Hid (0 ≤ plo a b ∧ plo a b < 18446744073709551616 ∧ 0 ≤ plo c d ∧ plo c d < 18446744073709551616))
    (hx : Hid (x = if s && t then ordw (phi c d) (plo c d) (phi a b) (plo a b) else if s then -1 else if t then 1 else ordw (phi a b) (plo a b) (phi c d) (plo c d))) :
    Calls Try.prog 40 #[.int .i64 a, .int .i64 b, .int .i64 c, .int .i64 d] w fun e w' => e = .returned (.int .i64 x) ∧ Below w.heap.size w w' := by
  cases s <;> cases t
  all_goals
    have hx' := hx.out
    simp only [Bool.and_true, Bool.and_false, Bool.false_eq_true, if_true, if_false] at hx'
    subst hx'
    clear hx
    go_enter Try.func40, Try.ntmps40
    go_wp2_with (first | (go_at_call 44; refine (product_any _ _ _ (by omega) (by omega) (by omega) (by omega)).mono ?_; rintro e w' ⟨rfl, hb⟩) |
      (go_at_call 45; refine (order_any _ _ _ _ _ _ _ (by have := P1.out; omega) (by have := P1.out; omega) (by have := P1.out; omega) (by have := P1.out; omega)).mono ?_; rintro e w' ⟨rfl, hb⟩))
    go_ret
    exact ⟨rfl, by repeat (first | exact Below.refl _ _ | assumption | refine bq_alloc ?_ _ | refine bq_trans ?_ (by assumption))⟩
theorem compare_any (a b c d : Int) (w : World) (a0 : -9223372036854775808 ≤ a) (a1 : a ≤ 9223372036854775807) (b0 : -9223372036854775808 ≤ b) (b1 : b ≤ 9223372036854775807)
    (c0 : -9223372036854775808 ≤ c) (c1 : c ≤ 9223372036854775807) (d0 : -9223372036854775808 ≤ d) (d1 : d ≤ 9223372036854775807) :
    Calls Try.prog 40 #[.int .i64 a, .int .i64 b, .int .i64 c, .int .i64 d] w fun e w' => e = .returned (.int .i64 (cmp4 a b c d)) ∧ Below w.heap.size w w' := by
  have ⟨p1, p2, p3, p4⟩ := p_bounds a b
  have ⟨q1, q2, q3, q4⟩ := p_bounds c d
  refine compare_core a b c d w a0 a1 b0 b1 c0 c1 d0 d1 _ _ rfl rfl _ (Lib.hid ⟨p2, p3, q2, q3⟩) (Lib.hid ?_)
  rw [p_sign, p_sign]
  unfold cmp4 ordw
  rw [← p4, ← q4]
  by_cases h : a * b < 0 <;> by_cases k : c * d < 0 <;> simp [h, k]
  all_goals (repeat' split) <;> omega
end Go.Proofs.Ytgopaajmbifbaaa
namespace Go.Proofs.Ytgopaajmbifbaaa
open Go.RowKit Go.WideShapes Go.ChangeShapes
set_option linter.unusedVariables false
def Lasts {α : Type} (R : World → List Value → α → Prop) : Prop := ∀ w w' cs x, R w cs x → Below w.heap.size w w' → R w' cs x
def Sl {α : Type} (w : World) (k : Nat) (R : World → List Value → α → Prop) (sv : Value) (xs : List α) : Prop :=
  ∃ a c b o, sv = .slice a xs.length c ∧ xs.length ≤ 9223372036854775807 ∧ (xs.length = 0 ∨ a = some ⟨b, o, none⟩ ∧ b < w.heap.size) ∧
    ∀ i (h : i < xs.length), ∃ cs : List Value, cs.length = k ∧ R w cs xs[i] ∧ w.rangeAt b (o + i * k) cs
theorem rangeAt_keep {w w' : World} {b o : Nat} {cs : List Value} (h : w.rangeAt b o cs) (hb : Below w.heap.size w w') : w'.rangeAt b o cs := fun j v hv => by
  have := h j v hv
  rw [hb.cell (p := ⟨b, o + j, none⟩) (block_lt_of_cell this)]
  exact this
theorem Sl.keep {α : Type} {w w' : World} {k : Nat} {R : World → List Value → α → Prop} {sv : Value} {xs : List α} (hR : Lasts R) (h : Sl w k R sv xs) (hb : Below w.heap.size w w') : Sl w' k R sv xs := by
  obtain ⟨a, c, b, o, rfl, h1, h2, h3⟩ := h
  refine ⟨a, c, b, o, rfl, h1, h2.imp id (fun ⟨p, q⟩ => ⟨p, by have := hb.size; omega⟩), fun i hi => ?_⟩
  obtain ⟨cs, g1, g2, g3⟩ := h3 i hi
  exact ⟨cs, g1, hR _ _ _ _ g2 hb, rangeAt_keep g3 hb⟩
theorem sl_nil {α : Type} (w : World) (k : Nat) (R : World → List Value → α → Prop) : Sl w k R (.slice none 0 0) ([] : List α) := ⟨none, 0, 0, 0, rfl, by simp, Or.inl rfl, fun i hi => absurd hi (by simp)⟩
theorem Sl.get {α : Type} {w : World} {k : Nat} {R : World → List Value → α → Prop} {sv : Value} {xs : List α} (h : Sl w k R sv xs) : ∃ a c b o, sv = .slice a xs.length c ∧ xs.length ≤ 9223372036854775807 ∧
    ∀ i (hi : i < xs.length), a = some ⟨b, o, none⟩ ∧ b < w.heap.size ∧ ∃ cs : List Value, cs.length = k ∧ R w cs xs[i] ∧ w.rangeAt b (o + i * k) cs := by
  obtain ⟨a, c, b, o, rfl, h1, h2, h3⟩ := h
  exact ⟨a, c, b, o, rfl, h1, fun i hi => ⟨(h2.resolve_left (by omega)).1, (h2.resolve_left (by omega)).2, h3 i hi⟩⟩
theorem sl_of_trod {α H : Type} [Inhabited α] {enc : TypeId × Value → H} {P : Program} {w : World} {base : Nat} {spare : Nat → Bool} {held : Bool} {t e : TypeId} {k fuel : Nat} {sv : Value} {x : DataW H × List MemPlace} {R : World → List Value → α → Prop}
    (ht : P.underlying t = some (.slice e)) (hk : P.cellsOf e = k) (hR : ∀ n cs y, cs.length = k → DataW.trod enc P w base spare held n e cs = some y → ∃ z, R w cs z)
    (h : DataW.trod enc P w base spare held fuel t [sv] = some x) (h0 : 0 < k) : ∃ xs : List α, Sl w k R sv xs := by
  rcases Go.Deep.open_slice ht h with ⟨hcs, _⟩ | ⟨a, len, cap, m, n, D, Pl, hcs, hb, hl, hm, hmm, rfl, hx⟩
  · simp only [List.cons.injEq, and_true] at hcs
    subst hcs
    exact ⟨[], sl_nil w k R⟩
  · simp only [List.cons.injEq, and_true] at hcs
    subst hcs
    have hlm : len ≤ m := by rw [hmm]; split <;> omega
    rw [hk] at hx
    have each : ∀ i, i < len → ∃ q : List Value × α, q.1.length = k ∧ R w q.1 q.2 ∧ ∀ j, j < k → w.cell? ((a.add (i * k)).add j) = q.1[j]? := fun i hi => by
      obtain ⟨cs', h1, h2⟩ := hx i (by omega)
      obtain ⟨_, g2, g3⟩ := World.cells?_some h1
      obtain ⟨z, hz⟩ := hR _ _ _ g2 h2
      exact ⟨(cs', z), g2, hz, g3⟩
    obtain ⟨f, hf⟩ := Go.Deep.choose_lt each
    have hs : len = 0 ∨ a.spot = none := by
      rcases Nat.eq_zero_or_pos len with h | h
      · exact Or.inl h
      · right
        obtain ⟨g1, g2, g3⟩ := hf 0 h
        have h1 := g3 0 h0
        rw [List.getElem?_eq_getElem (by omega)] at h1
        have ha : ((a.add (0 * k)).add 0) = a := by simp [Addr.add]
        rw [ha] at h1
        exact World.cell?_spot h1
    refine ⟨(List.range len).map fun i => (f i).2, some a, cap, a.block, a.off, by simp, by simp only [List.length_map, List.length_range]; unfold maxLen at hm; omega, ?_, fun i hi => ?_⟩
    · rcases hs with h | h
      · left; simp [h]
      · rcases Nat.eq_zero_or_pos len with hz | hz
        · left; simp [hz]
        · right
          refine ⟨by cases a; simp only at h; subst h; rfl, ?_⟩
          obtain ⟨g1, g2, g3⟩ := hf 0 hz
          have h1 := g3 0 h0
          rw [List.getElem?_eq_getElem (by omega)] at h1
          have ha : ((a.add (0 * k)).add 0) = a := by simp [Addr.add]
          rw [ha] at h1
          exact block_lt_of_cell h1
    · have hi' : i < len := by simpa using hi
      obtain ⟨g1, g2, g3⟩ := hf i hi'
      refine ⟨(f i).1, g1, by simpa using g2, fun j v hv => ?_⟩
      have hj : j < k := by rw [← g1]; exact (List.getElem?_eq_some_iff.1 hv).1
      have h1 := g3 j hj
      rw [hv] at h1
      have hsp : a.spot = none := by
        rcases hs with h | h
        · omega
        · exact h
      cases a
      simp only at hsp
      subst hsp
      rw [Go.Addr.add_mid, Go.Addr.add_mid] at h1
      exact h1
end Go.Proofs.Ytgopaajmbifbaaa
