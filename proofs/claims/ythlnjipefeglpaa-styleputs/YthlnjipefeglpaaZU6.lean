import Derived.Test.YthlnjipefeglpaaZU5
import Derived.Deep.MidRow
import Derived.Deep.Slices
import Derived.Laws.AppendOwn
import Derived.OwnWalk
import Derived.Deep.OwnRows
import Derived.Laws.MakeOwn
import Derived.KernelRfl
import Derived.ChangeKeysEq
namespace Go.Proofs.Ythlnjipefeglpaa
open Go.RowKit
set_option linter.unusedVariables false
theorem Blk.under {w w' : World} {b B : Nat} {cs : Array Value} {t : TypeId} (h : Blk w b cs t) (hb : Below B w w') (hB : b < B) : Blk w' b cs t := by unfold Blk; rw [hb.block b hB]; exact h
def spl : Array Value → Nat → List Value → Array Value
  | cs, _, [] => cs
  | cs, k, v :: vs => spl (cs.setIfInBounds k v) (k + 1) vs
theorem blk_setCells {b : Nat} {t : TypeId} : ∀ (vs : List Value) (k : Nat) (w : World) (cs : Array Value), Blk w b cs t → Blk (w.setCells b k vs) b (spl cs k vs) t
  | [], _, _, _, h => h
  | v :: vs, k, w, cs, h => blk_setCells vs (k + 1) _ _ (h.set k v)
theorem turned_trans {g : Nat} {a b c : World} (h : Turned g a b) (k : Turned g b c) : Turned g a c :=
  ⟨k.os.trans h.os, k.tape.trans h.tape, k.output.trans h.output, k.size.trans h.size, fun i hi => (k.block i hi).trans (h.block i hi)⟩
theorem turned_refl (g : Nat) (w : World) : Turned g w w := ⟨rfl, rfl, rfl, rfl, fun _ _ => rfl⟩
theorem turned_setCells (b : Nat) : ∀ (vs : List Value) (k : Nat) (w : World), Turned b w (w.setCells b k vs)
  | [], _, w => turned_refl b w
  | v :: vs, k, w => turned_trans (turned_set w ⟨b, k, none⟩ v) (turned_setCells b vs (k + 1) _)
theorem Blk.isSome {w : World} {b : Nat} {cs : Array Value} {t : TypeId} (h : Blk w b cs t) (i : Nat) (hi : i < cs.size) : (w.cell? ⟨b, i, none⟩).isSome = true := by
  rw [h.cell i]; simp [hi]
section
variable {P : Program} {ops : Array Oper} {rest : List Oper} {o : Oper} {a : Act} {w : World} {Q : Exit → Act → World → Prop}
theorem wl_set (ty : TypeId) (x y : Operand) (ho : o.op = .store ty x y) (hgd : o.guard = none) (b k : Nat) (hx : a.eval x = .pointer (some ⟨b, k, none⟩)) (v : Value) (hy : a.eval y = v) (h1 : v.oneCell' = true) (hi : (P.info? ty).map (·.size) = some 1)
    (cs : Array Value) (t : TypeId) (hB : Blk w b cs t) (hk : k < cs.size)
    (h : ∀ W, Blk W b (cs.setIfInBounds k v) t → Turned b w W → wpList P ops Q rest (a.put o.dst undef) W) : wpList P ops Q (o :: rest) a w := by
  refine wpList_plain hgd fun K hK => ?_
  have hr := run_storeCells_cells (P := P) b k [v] 0 w (fun j hj => by simp at hj; subst hj; simpa using hB.isSome k hk) (fun j hj => by simp at hj; subst hj; exact hB.frozen _) (fun u hu => by simp at hu; subst hu; exact h1)
  have hc : v.cells = #[v] := by cases v <;> first | rfl | cases h1
  have hs : (storeVar ty ⟨b, k, none⟩ v).run P w = .ok () (w.setCell ⟨b, k, none⟩ v) := by
    cases hq : P.info? ty with
    | none => simp [hq] at hi
    | some i =>
      have hs : i.size = 1 := by simpa [hq] using hi
      simp only [Nat.add_zero] at hr
      simp [storeVar, sizeOf, typeInfo, hq, hc, hs, hr, World.setCells]
  have := h _ (hB.set k v) (turned_set w ⟨b, k, none⟩ v)
  unfold Oper.wp execOp
  simp only [ho, hx, hy, Instr.storeAt, Instr.sureAddr, Sem.run_bind, Sem.run_pure, Result.andThen_ok, hs]
  exact hK _ _ this
theorem wl_putAt (ty : TypeId) (x y : Operand) (ho : o.op = .store ty x y) (hgd : o.guard = none) (b k : Nat) (hx : a.eval x = .pointer (some ⟨b, k, none⟩)) (us : Array Value) (hy : a.eval y = .agg us) (hi : (P.info? ty).map (·.size) = some us.size) (h1 : us.all (·.oneCell') = true)
    (cs : Array Value) (t : TypeId) (hB : Blk w b cs t) (hk : k + us.size ≤ cs.size) (cs' : Array Value) (hcs : spl cs k us.toList = cs')
    (h : ∀ W, Blk W b cs' t → Turned b w W → wpList P ops Q rest (a.put o.dst undef) W) : wpList P ops Q (o :: rest) a w :=
  wpList_store_mid hgd ty x y ho b k us hx hy (fun j hj => ⟨hB.isSome _ (by omega), hB.frozen _⟩) hi h1 (h _ (hcs ▸ blk_setCells us.toList k w cs hB) (turned_setCells b us.toList k w))
end
structure But (p q : Nat) (w w' : World) : Prop where
  os : w'.os = w.os
  tape : w'.tape = w.tape
  output : w'.output = w.output
  size : w.heap.size ≤ w'.heap.size
  block : ∀ k, k < w.heap.size → k ≠ p → k ≠ q → w'.heap[k]? = w.heap[k]?
theorem But.of {p q : Nat} {w w' : World} (h : Below w.heap.size w w') : But p q w w' := ⟨h.os, h.tape, h.output, h.size, fun k hk _ _ => h.block k hk⟩
theorem But.setp {p q : Nat} {w w' : World} (i : Nat) (v : Value) (h : But p q w w') : But p q w (w'.setCell ⟨p, i, none⟩ v) :=
  ⟨h.os, h.tape, h.output, by simpa [World.setCell] using h.size, fun k hk hp hq => by rw [heap_setCell_other w' ⟨p, i, none⟩ k v hp]; exact h.block k hk hp hq⟩
theorem But.setq {p q : Nat} {w w' : World} (i : Nat) (v : Value) (h : But p q w w') : But p q w (w'.setCell ⟨q, i, none⟩ v) :=
  ⟨h.os, h.tape, h.output, by simpa [World.setCell] using h.size, fun k hk hp hq => by rw [heap_setCell_other w' ⟨q, i, none⟩ k v hq]; exact h.block k hk hp hq⟩
theorem Blk.but {p q b : Nat} {w w' : World} {cs : Array Value} {t : TypeId} (hB : Blk w b cs t) (h : But p q w w') (hp : b ≠ p) (hq : b ≠ q) : Blk w' b cs t := by
  unfold Blk; rw [h.block b hB.lt hp hq]; exact hB
theorem But.below {p q : Nat} {a w w' : World} (h : But p q w w') (hb : Below a.heap.size a w) (hp : a.heap.size ≤ p) (hq : a.heap.size ≤ q) : Below a.heap.size a w' :=
  hb.trans ⟨h.os, h.tape, h.output, h.size, fun k hk => h.block k (by have := hb.size; omega) (by omega) (by omega)⟩
end Go.Proofs.Ythlnjipefeglpaa
namespace Go.Proofs.Ythlnjipefeglpaa
open Go.RowKit Go.WideShapes Go.ChangeShapes
set_option linter.unusedVariables false
def Lasts {α : Type} (R : World → List Value → α → Prop) : Prop := ∀ w w' cs x, R w cs x → Below w.heap.size w w' → R w' cs x
def Sl {α : Type} (w : World) (k : Nat) (R : World → List Value → α → Prop) (sv : Value) (xs : List α) : Prop :=
  ∃ a c b o, sv = .slice a xs.length c ∧ xs.length ≤ 9223372036854775807 ∧ (xs.length = 0 ∨ a = some ⟨b, o, none⟩ ∧ b < w.heap.size) ∧
    ∀ i (h : i < xs.length), ∃ cs : List Value, cs.length = k ∧ R w cs xs[i] ∧ w.rangeAt b (o + i * k) cs
theorem rangeAt_keep {w w' : World} {b o : Nat} {cs : List Value} (h : w.rangeAt b o cs) (hb : Below w.heap.size w w') : w'.rangeAt b o cs := fun j v hv => by
  have := h j v hv
  rw [hb.cell (p := ⟨b, o + j, none⟩) (block_lt_of_cell this)]
  exact this
theorem Sl.keep {α : Type} {w w' : World} {k : Nat} {R : World → List Value → α → Prop} {sv : Value} {xs : List α} (hR : Lasts R) (h : Sl w k R sv xs) (hb : Below w.heap.size w w') : Sl w' k R sv xs := by
  obtain ⟨a, c, b, o, rfl, h1, h2, h3⟩ := h
  refine ⟨a, c, b, o, rfl, h1, h2.imp id (fun ⟨p, q⟩ => ⟨p, by have := hb.size; omega⟩), fun i hi => ?_⟩
  obtain ⟨cs, g1, g2, g3⟩ := h3 i hi
  exact ⟨cs, g1, hR _ _ _ _ g2 hb, rangeAt_keep g3 hb⟩
theorem sl_nil {α : Type} (w : World) (k : Nat) (R : World → List Value → α → Prop) : Sl w k R (.slice none 0 0) ([] : List α) := ⟨none, 0, 0, 0, rfl, by simp, Or.inl rfl, fun i hi => absurd hi (by simp)⟩
theorem Sl.get {α : Type} {w : World} {k : Nat} {R : World → List Value → α → Prop} {sv : Value} {xs : List α} (h : Sl w k R sv xs) : ∃ a c b o, sv = .slice a xs.length c ∧ xs.length ≤ 9223372036854775807 ∧
    ∀ i (hi : i < xs.length), a = some ⟨b, o, none⟩ ∧ b < w.heap.size ∧ ∃ cs : List Value, cs.length = k ∧ R w cs xs[i] ∧ w.rangeAt b (o + i * k) cs := by
  obtain ⟨a, c, b, o, rfl, h1, h2, h3⟩ := h
  exact ⟨a, c, b, o, rfl, h1, fun i hi => ⟨(h2.resolve_left (by omega)).1, (h2.resolve_left (by omega)).2, h3 i hi⟩⟩
theorem sl_of_trod {α H : Type} [Inhabited α] {enc : TypeId × Value → H} {P : Program} {w : World} {base : Nat} {spare : Nat → Bool} {held : Bool} {t e : TypeId} {k fuel : Nat} {sv : Value} {x : DataW H × List MemPlace} {R : World → List Value → α → Prop}
    (ht : P.underlying t = some (.slice e)) (hk : P.cellsOf e = k) (hR : ∀ n cs y, cs.length = k → DataW.trod enc P w base spare held n e cs = some y → ∃ z, R w cs z)
    (h : DataW.trod enc P w base spare held fuel t [sv] = some x) (h0 : 0 < k) : ∃ xs : List α, Sl w k R sv xs := by
  rcases Go.Deep.open_slice ht h with ⟨hcs, _⟩ | ⟨a, len, cap, m, n, D, Pl, hcs, hb, hl, hm, hmm, rfl, hx⟩
  · simp only [List.cons.injEq, and_true] at hcs
    subst hcs
    exact ⟨[], sl_nil w k R⟩
  · simp only [List.cons.injEq, and_true] at hcs
    subst hcs
    have hlm : len ≤ m := by rw [hmm]; split <;> omega
    rw [hk] at hx
    have each : ∀ i, i < len → ∃ q : List Value × α, q.1.length = k ∧ R w q.1 q.2 ∧ ∀ j, j < k → w.cell? ((a.add (i * k)).add j) = q.1[j]? := fun i hi => by
      obtain ⟨cs', h1, h2⟩ := hx i (by omega)
      obtain ⟨_, g2, g3⟩ := World.cells?_some h1
      obtain ⟨z, hz⟩ := hR _ _ _ g2 h2
      exact ⟨(cs', z), g2, hz, g3⟩
    obtain ⟨f, hf⟩ := Go.Deep.choose_lt each
    have hs : len = 0 ∨ a.spot = none := by
      rcases Nat.eq_zero_or_pos len with h | h
      · exact Or.inl h
      · right
        obtain ⟨g1, g2, g3⟩ := hf 0 h
        have h1 := g3 0 h0
        rw [List.getElem?_eq_getElem (by omega)] at h1
        have ha : ((a.add (0 * k)).add 0) = a := by simp [Addr.add]
        rw [ha] at h1
        exact World.cell?_spot h1
    refine ⟨(List.range len).map fun i => (f i).2, some a, cap, a.block, a.off, by simp, by simp only [List.length_map, List.length_range]; unfold maxLen at hm; omega, ?_, fun i hi => ?_⟩
    · rcases hs with h | h
      · left; simp [h]
      · rcases Nat.eq_zero_or_pos len with hz | hz
        · left; simp [hz]
        · right
          refine ⟨by cases a; simp only at h; subst h; rfl, ?_⟩
          obtain ⟨g1, g2, g3⟩ := hf 0 hz
          have h1 := g3 0 h0
          rw [List.getElem?_eq_getElem (by omega)] at h1
          have ha : ((a.add (0 * k)).add 0) = a := by simp [Addr.add]
          rw [ha] at h1
          exact block_lt_of_cell h1
    · have hi' : i < len := by simpa using hi
      obtain ⟨g1, g2, g3⟩ := hf i hi'
      refine ⟨(f i).1, g1, by simpa using g2, fun j v hv => ?_⟩
      have hj : j < k := by rw [← g1]; exact (List.getElem?_eq_some_iff.1 hv).1
      have h1 := g3 j hj
      rw [hv] at h1
      have hsp : a.spot = none := by
        rcases hs with h | h
        · omega
        · exact h
      cases a
      simp only at hsp
      subst hsp
      rw [Go.Addr.add_mid, Go.Addr.add_mid] at h1
      exact h1
end Go.Proofs.Ythlnjipefeglpaa
namespace Go.Proofs.Ythlnjipefeglpaa
open Go.RowKit
set_option linter.unusedVariables false
def nr (m v : Int) : Bool := decide (-m ≤ v) && decide (v ≤ m)
theorem nr_iff (m v : Int) : nr m v = true ↔ -m ≤ v ∧ v ≤ m := by simp [nr]
theorem all_take (f : Int → Bool) (zs : List Int) (k : Nat) (h : k < zs.length) (h1 : (zs.take k).all f = true) (h2 : f zs[k] = true) : (zs.take (k + 1)).all f = true := by
  rw [List.take_succ_eq_append_getElem h, List.all_append, h1]
  simp [h2]
theorem all_not (f : Int → Bool) (zs : List Int) (k : Nat) (h : k < zs.length) (h2 : f zs[k] = false) : zs.all f = false := by
  rw [List.all_eq_false]
  exact ⟨zs[k], List.getElem_mem h, by rw [h2]; simp⟩
def NrRel (zs : List Int) (m : Int) (i : Value) : Prop := ∃ k : Nat, k ≤ zs.length ∧ i = .int .i64 k ∧ (zs.take k).all (nr m) = true
set_option maxHeartbeats 1000000 in
theorem near_list (zs : List Int) (m : Int) (a : Option Addr) (b o c : Nat) (w : World) (hl : zs.length ≤ 1000000) (m0 : 0 ≤ m) (m1 : m ≤ 1000000000) (ha : Hid (Ints w zs a b o)) :
    Calls Try.prog 48 #[.int .i64 m, .slice a zs.length c] w fun e w' => e = .returned (.bool (zs.all (nr m))) ∧ w = w' := by
  go_enter Try.func48, Try.ntmps48
  go_wp2
  go_loop [9] (fun i => NrRel zs m i) (fun i => zs.length - (intOf i).toNat)
  case atStart => exact ⟨0, by omega, rfl, rfl⟩
  case round =>
    obtain ⟨k, hk, rfl, hx⟩ := hrel
    have HX := Lib.hid hx
    clear hx
    by_cases hlt : k < zs.length
    · obtain ⟨rfl, z0, z1, hcell⟩ := ha.out.at (bq_refl w) k hlt
      have HY := Lib.hid (all_take (nr m) zs k hlt HX.out)
      have HN := Lib.hid (all_not (nr m) zs k hlt)
      generalize zs[k] = z at *
      by_cases c1 : z < -m
      · have HF : Hid (zs.all (nr m) = false) := Lib.hid (HN.out (by simp [nr]; omega))
        clear HX HY HN
        go_wp2
        go_ret
        exact ⟨ret_bool HF.out.symm, rfl⟩
      · by_cases c2 : m < z
        · have HF : Hid (zs.all (nr m) = false) := Lib.hid (HN.out (by simp [nr]; omega))
          clear HX HY HN
          go_wp2
          go_ret
          exact ⟨ret_bool HF.out.symm, rfl⟩
        · have HF : Hid ((zs.take (k + 1)).all (nr m) = true) := Lib.hid (HY.out (by simp [nr]; omega))
          clear HX HY HN
          go_wp2
          go_round
          case rel => exact ⟨k + 1, by omega, by go_num, HF.out⟩
          case measure => simp [intOf]; omega
    · obtain rfl : k = zs.length := by omega
      have HL : Hid (zs.all (nr m) = true) := Lib.hid (by rw [← HX.out, List.take_length])
      go_wp2
      go_ret
      exact ⟨ret_bool HL.out.symm, rfl⟩
theorem in_any (z m : Int) (w : World) (m0 : 0 ≤ m) (m1 : m ≤ 1000000000) :
    Calls Try.prog 49 #[.int .i64 z, .int .i64 m] w fun e w' => e = .returned (.bool (nr m z)) ∧ w = w' := by
  go_enter Try.func49, Try.ntmps49
  go_wp2
  all_goals (go_ret; exact ⟨ret_bool (by simp [nr]; try omega), rfl⟩)
end Go.Proofs.Ythlnjipefeglpaa
namespace Go.Proofs.Ythlnjipefeglpaa
open Go.RowKit
set_option linter.unusedVariables false
def rectOk (l r t b : Int) : Bool := [l, r, t, b].all (nr 1048576) && decide (l ≤ r) && decide (t ≤ b)
def matOk (a b c d x y : Int) : Bool := [a, b, c, d].all (nr 4194304) && [x, y].all (nr 1048576)
def cxOk (m d : List Int) : Bool := m.all (nr 512) && d.all (nr 255)
def rgbaOk (r g b a : Int) : Bool := [r, g, b, a].all (nr 255) && decide (0 ≤ r) && decide (0 ≤ g) && decide (0 ≤ b) && decide (0 ≤ a)
def I64 (v : Int) : Prop := -9223372036854775808 ≤ v ∧ v ≤ 9223372036854775807
theorem i64_2 {x y : Int} (hx : I64 x) (hy : I64 y) : ∀ v ∈ [x, y], -9223372036854775808 ≤ v ∧ v ≤ 9223372036854775807 := by
  intro v hv
  simp only [List.mem_cons, List.not_mem_nil, or_false] at hv
  rcases hv with rfl | rfl
  · exact hx
  · exact hy
theorem i64_4 {x y z u : Int} (hx : I64 x) (hy : I64 y) (hz : I64 z) (hu : I64 u) : ∀ v ∈ [x, y, z, u], -9223372036854775808 ≤ v ∧ v ≤ 9223372036854775807 := by
  intro v hv
  simp only [List.mem_cons, List.not_mem_nil, or_false] at hv
  rcases hv with rfl | rfl | rfl | rfl
  · exact hx
  · exact hy
  · exact hz
  · exact hu
theorem near4 (m x y z u : Int) (hx : I64 x) (hy : I64 y) (hz : I64 z) (hu : I64 u) (m0 : 0 ≤ m) (m1 : m ≤ 1000000000) (q : Bool) (hq : [x, y, z, u].all (nr m) = q) (b : Nat) (w : World) (B : Blk w b (iA [x, y, z, u]) 3) :
    Calls Try.prog 48 #[.int .i64 m, .slice (some ⟨b, 0, none⟩) 4 4] w fun e w' => e = .returned (.bool q) ∧ w = w' := by
  rw [← hq]
  exact near_list [x, y, z, u] m _ b 0 4 w (by simp) m0 m1 (Lib.hid (B.ints (i64_4 hx hy hz hu)))
theorem near2 (m x y : Int) (hx : I64 x) (hy : I64 y) (m0 : 0 ≤ m) (m1 : m ≤ 1000000000) (q : Bool) (hq : [x, y].all (nr m) = q) (b : Nat) (w : World) (B : Blk w b (iA [x, y]) 3) :
    Calls Try.prog 48 #[.int .i64 m, .slice (some ⟨b, 0, none⟩) 2 2] w fun e w' => e = .returned (.bool q) ∧ w = w' := by
  rw [← hq]
  exact near_list [x, y] m _ b 0 2 w (by simp) m0 m1 (Lib.hid (B.ints (i64_2 hx hy)))
set_option maxHeartbeats 1000000 in
theorem rightmatrix_any (a b c d x y : Int) (w : World) (ha : I64 a) (hb : I64 b) (hc : I64 c) (hd : I64 d) (hx : I64 x) (hy : I64 y) :
    Calls Try.prog 25 #[.agg #[.int .i64 a, .int .i64 b, .int .i64 c, .int .i64 d, .int .i64 x, .int .i64 y]] w fun e w' => e = .returned (.bool (matOk a b c d x y)) ∧ Below w.heap.size w w' := by
  obtain ⟨q, hq⟩ : ∃ q, [a, b, c, d].all (nr 4194304) = q := ⟨_, rfl⟩
  obtain ⟨p, hp⟩ : ∃ p, [x, y].all (nr 1048576) = p := ⟨_, rfl⟩
  have HN := Lib.hid (fun w g B => near4 4194304 a b c d ha hb hc hd (by omega) (by omega) q hq g w B)
  have HP := Lib.hid (fun w g B => near2 1048576 x y hx hy (by omega) (by omega) p hp g w B)
  have HR : Hid (matOk a b c d x y = (q && p)) := Lib.hid (by unfold matOk; rw [hq, hp])
  rw [HR.out]
  clear hq hp ha hb hc hd hx hy HR
  cases q
  · go_enter Try.func25, Try.ntmps25
    go_wp2_with (first
      | (refine wl_box 25 _ _ rfl rfl rfl ?_; intro W0 b0 B0 l0 k0; have c0 : W0.cell? ⟨b0, 0, none⟩ = some (.int .i64 a) := B0.cell 0; have c1 : W0.cell? ⟨b0, 1, none⟩ = some (.int .i64 b) := B0.cell 1; have c2 : W0.cell? ⟨b0, 2, none⟩ = some (.int .i64 c) := B0.cell 2; have c3 : W0.cell? ⟨b0, 3, none⟩ = some (.int .i64 d) := B0.cell 3; have c4 : W0.cell? ⟨b0, 4, none⟩ = some (.int .i64 x) := B0.cell 4; have c5 : W0.cell? ⟨b0, 5, none⟩ = some (.int .i64 y) := B0.cell 5)
      | (refine wlg_slice 90 3 4 _ _ (ints4_run a b c d) _ rfl rfl rfl ?_; intro W1 b1 B1 l1 k1)
      | (go_at_call 48; refine (HN.out _ _ B1).mono ?_; rintro e w2 ⟨rfl, rfl⟩))
    go_ret; exact ⟨ret_bool rfl, bq_trans k0 k1⟩
  · go_enter Try.func25, Try.ntmps25
    go_wp2_with (first
      | (refine wl_box 25 _ _ rfl rfl rfl ?_; intro W0 b0 B0 l0 k0; have c0 : W0.cell? ⟨b0, 0, none⟩ = some (.int .i64 a) := B0.cell 0; have c1 : W0.cell? ⟨b0, 1, none⟩ = some (.int .i64 b) := B0.cell 1; have c2 : W0.cell? ⟨b0, 2, none⟩ = some (.int .i64 c) := B0.cell 2; have c3 : W0.cell? ⟨b0, 3, none⟩ = some (.int .i64 d) := B0.cell 3; have c4 : W0.cell? ⟨b0, 4, none⟩ = some (.int .i64 x) := B0.cell 4; have c5 : W0.cell? ⟨b0, 5, none⟩ = some (.int .i64 y) := B0.cell 5)
      | (refine wlg_slice 90 3 4 _ _ (ints4_run a b c d) _ rfl rfl rfl ?_; intro W1 b1 B1 l1 k1; have B2 := B0.keep k1; have d0 : W1.cell? ⟨b0, 0, none⟩ = some (.int .i64 a) := B2.cell 0; have d1 : W1.cell? ⟨b0, 1, none⟩ = some (.int .i64 b) := B2.cell 1; have d2 : W1.cell? ⟨b0, 2, none⟩ = some (.int .i64 c) := B2.cell 2; have d3 : W1.cell? ⟨b0, 3, none⟩ = some (.int .i64 d) := B2.cell 3; have d4 : W1.cell? ⟨b0, 4, none⟩ = some (.int .i64 x) := B2.cell 4; have d5 : W1.cell? ⟨b0, 5, none⟩ = some (.int .i64 y) := B2.cell 5)
      | (refine wlg_slice 90 3 2 _ _ (ints2_run x y) _ rfl rfl rfl ?_; intro W3 b3 B3 l3 k3)
      | (go_at_call 48; refine (HP.out _ _ B3).mono ?_; rintro e w4 ⟨rfl, rfl⟩)
      | (go_at_call 48; refine (HN.out _ _ B1).mono ?_; rintro e w2 ⟨rfl, rfl⟩))
    go_ret; exact ⟨ret_bool (by simp), bq_trans (bq_trans k0 k1) k3⟩
theorem run_min4 {P : Program} (w : World) (ts : Array TypeId) (t : TypeId) (k k1 k2 k3 : IntKind) (x y z u : Int) :
    (Builtin.min_ ts t #[.int k x, .int k1 y, .int k2 z, .int k3 u]).run P w = .ok (.int k (min (min (min x y) z) u)) w := by
  have e : ∀ x y : Int, (if y < x then y else x) = min x y := by
    intro x y
    rw [Int.min_def]
    split <;> split <;> omega
  simp [Builtin.min_, Builtin.min2, e]
attribute [local go_sem high] run_min4
set_option maxHeartbeats 1000000 in
theorem rightrgba_any (r g b a : Int) (w : World) (hr : I64 r) (hg : I64 g) (hb : I64 b) (ha : I64 a) :
    Calls Try.prog 24 #[.agg #[.int .i64 r, .int .i64 g, .int .i64 b, .int .i64 a]] w fun e w' => e = .returned (.bool (rgbaOk r g b a)) ∧ Below w.heap.size w w' := by
  obtain ⟨q, hq⟩ : ∃ q, [r, g, b, a].all (nr 255) = q := ⟨_, rfl⟩
  have HN := Lib.hid (fun w z B => near4 255 r g b a hr hg hb ha (by omega) (by omega) q hq z w B)
  have HR : Hid (rgbaOk r g b a = (q && decide (0 ≤ r) && decide (0 ≤ g) && decide (0 ≤ b) && decide (0 ≤ a))) := Lib.hid (by unfold rgbaOk; rw [hq])
  rw [HR.out]
  clear hq hr hg hb ha HR
  go_enter Try.func24, Try.ntmps24
  go_wp2_with (first
    | (refine wl_box 23 _ _ rfl rfl rfl ?_; intro W0 b0 B0 l0 k0; have c0 : W0.cell? ⟨b0, 0, none⟩ = some (.int .i64 r) := B0.cell 0; have c1 : W0.cell? ⟨b0, 1, none⟩ = some (.int .i64 g) := B0.cell 1; have c2 : W0.cell? ⟨b0, 2, none⟩ = some (.int .i64 b) := B0.cell 2; have c3 : W0.cell? ⟨b0, 3, none⟩ = some (.int .i64 a) := B0.cell 3)
    | (refine wlg_slice 90 3 4 _ _ (ints4_run r g b a) _ rfl rfl rfl ?_; intro W1 b1 B1 l1 k1; have B2 := B0.keep k1; have d0 : W1.cell? ⟨b0, 0, none⟩ = some (.int .i64 r) := B2.cell 0; have d1 : W1.cell? ⟨b0, 1, none⟩ = some (.int .i64 g) := B2.cell 1; have d2 : W1.cell? ⟨b0, 2, none⟩ = some (.int .i64 b) := B2.cell 2; have d3 : W1.cell? ⟨b0, 3, none⟩ = some (.int .i64 a) := B2.cell 3))
  refine (HN.out _ _ B1).mono ?_
  rintro e w2 ⟨rfl, rfl⟩
  clear HN B0 B1 B2 c0 c1 c2 c3
  cases q
  all_goals
    go_wp2
    all_goals (go_ret; exact ⟨ret_bool (by rw [Bool.eq_iff_iff]; simp; try omega), bq_trans k0 k1⟩)
end Go.Proofs.Ythlnjipefeglpaa
namespace Go.Proofs.Ythlnjipefeglpaa
open Go.RowKit
set_option linter.unusedVariables false
def iL (l : List Int) : List Value := l.map (Value.int .i64 ·)
theorem iL_len (l : List Int) : (iL l).length = l.length := by simp [iL]
def OwnI (w : World) (B : Nat) (v : Value) (l : List Int) : Prop := w.ownsRow B 3 1 v l.length (iL l)
section
variable {ops : Array Oper} {rest : List Oper} {o : Oper} {a : Act} {w : World} {Q : Exit → Act → World → Prop}
end
end Go.Proofs.Ythlnjipefeglpaa
