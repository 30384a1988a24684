import Derived.Test.YthlnjipefeglpaaZU28
import Derived.Test.YthlnjipefeglpaaZU29
import Derived.Test.YthlnjipefeglpaaZU32
namespace Go.Proofs.Ythlnjipefeglpaa
open Go.RowKit
set_option linter.unusedVariables false
set_option linter.unusedSimpArgs false
set_option maxRecDepth 100000
def Tk8 (w : World) (b : Nat) (x : RS) : Prop := Blk w b x.cells 79
def Bt (p : Nat) (w w' : World) : Prop := But p p w w'
theorem Bt.keep {p : Nat} {w W W' : World} (h : Bt p w W) (k : Below W.heap.size W W') : Bt p w W' := But.trans h (But.of k)
theorem Bt.but {p q : Nat} {w W W' : World} (h : Bt p w W) (k : But q q W W') (hq : q = p ∨ w.heap.size ≤ q) : Bt p w W' :=
  ⟨k.os.trans h.os, k.tape.trans h.tape, k.output.trans h.output, Nat.le_trans h.size k.size, fun i hi h1 _ => (k.block i (by have := h.size; omega) (by omega) (by omega)).trans (h.block i hi h1 h1)⟩
theorem Bt.turned {p q : Nat} {w W W' : World} (h : Bt p w W) (T : Turned q W W') (hq : q = p ∨ w.heap.size ≤ q) : Bt p w W' := h.but T.gone hq
theorem sizeER8 : (Try.prog.info? 41).map (·.size) = some 1 := by kernel_rfl
theorem sizeRG8 : (Try.prog.info? 23).map (·.size) = some 4 := by kernel_rfl
theorem sizeMT8 : (Try.prog.info? 25).map (·.size) = some 6 := by kernel_rfl
theorem zeroRG8 (w : World) : (zeroValue 23).run Try.prog w = .ok (.agg #[.int .i64 0, .int .i64 0, .int .i64 0, .int .i64 0]) w := Try.zeroValue23 w
theorem zeroMT8 (w : World) : (zeroValue 25).run Try.prog w = .ok (.agg #[.int .i64 0, .int .i64 0, .int .i64 0, .int .i64 0, .int .i64 0, .int .i64 0]) w := Try.zeroValue25 w
theorem size51r : (Try.prog.info? 46).map (·.size) = some 2 := by kernel_rfl
theorem zero51r (w : World) : (zeroValue 46).run Try.prog w = .ok (.agg #[.string ⟨#[]⟩, .int .i64 0]) w := Try.zeroValue46 w
theorem post_tct {P : Program} {fn : Func} {p u v : Tmp} {ty : TypeId} {a : Act} {W : World} {R : Ending → World → Prop} {n : Nat} {d : TypeDesc}
    (hu : P.underlying ty = some d) (hd : (match d with | .struct _ | .array _ _ => true | _ => false) = true) (hi : (P.info? ty).map (·.size) = some n)
    (hres : fn.results = #[.tmp u, .cell p ty, .tmp v]) {b : Nat} {cs : Array Value} {t : TypeId} (hB : Blk W b cs t) (hn : cs.size = n)
    (hp : a.tmps[p]?.getD undef = .pointer (some ⟨b, 0, none⟩)) {x y : Value} (hx : a.tmps[u]?.getD undef = x) (hy : a.tmps[v]?.getD undef = y) (hdf : a.defers = []) (hR : R (.returned (.tuple #[x, .agg cs, y])) W) : bodyPost P fn R .ret a W := by
  refine bodyPost_ret (v := .tuple #[x, .agg cs, y]) ?_ hdf hR
  simp only [results, hres]
  simp [Sem.run_bind, Result.andThen, hp, hx, hy, asAddr, run_loadVar_row W b t ty cs (0, 0) d hB hu hd (by rw [hi, hn])]
theorem demand_any (x : RS) (c : Bool) (e : Int) (b : Nat) (w : World) (hx : Tk8 w b x) :
    Calls Try.prog 56 #[.pointer (some ⟨b, 0, none⟩), .bool (!c), .int .i64 e] w fun r w' => r = .returned (.tuple #[]) ∧ Tk8 w' b (x.dem c e) ∧ But b b w w' := by
  obtain ⟨xs, xa, xe⟩ := x
  have c2 : w.cell? ⟨b, 2, none⟩ = some (.int .i64 xe) := Blk.cell hx 2
  have f2 := Blk.frozen hx 2
  have HX := Lib.hid hx
  by_cases he : xe = 0
  · subst he
    cases c
    · have e1 : RS.dem ⟨xs, xa, 0⟩ false e = ⟨xs, xa, 0⟩ := RS.dem_no _ _
      rw [e1]
      clear hx e1
      go_enter Try.func56, Try.ntmps56
      go_wp2
      go_end0
      exact ⟨rfl, HX.out, but_refl _ _ _⟩
    · have e1 : RS.dem ⟨xs, xa, 0⟩ true e = ⟨xs, xa, e⟩ := RS.dem_yes rfl _
      rw [e1]
      clear hx e1
      go_enter Try.func56, Try.ntmps56
      go_wp2
      go_end0
      exact ⟨rfl, Blk.set HX.out 2 _, But.setp _ _ (but_refl _ _ _)⟩
  · have e1 : RS.dem ⟨xs, xa, xe⟩ c e = ⟨xs, xa, xe⟩ := RS.dem_err he _ _
    have q : (xe == 0) = false := beq_eq_false_iff_ne.2 he
    rw [e1]
    clear hx e1
    go_enter Try.func56, Try.ntmps56
    go_wp2
    go_end0
    exact ⟨rfl, HX.out, but_refl _ _ _⟩
theorem number1_any (xs : ByteArray) (xa n : Int) (bq : Nat) (t : TypeId) (w : World) (hs : xs.size ≤ 1000000) (h1 : 1 ≤ n) (h4 : n ≤ 4) (hq : Blk w bq #[.int .i64 n] t) :
    Calls Try.prog 74 #[.agg #[.string xs, .int .i64 xa], .pointer (some ⟨bq, 0, none⟩)] w fun e w' => e = .returned (.tuple #[.int .i64 (liV xs xa n), .agg #[.string (byS xs xa n), .int .i64 (byA xs xa n)], .int .i64 (byE xs.size xa n)]) ∧ Below w.heap.size w w' := by
  have HP := Lib.hid (fun W => little_any xs xa n W (by omega))
  unfold liR at HP
  rw [if_pos ⟨h1, h4⟩] at HP
  have HP2 : Hid (∀ W, Calls Try.prog 75 #[.agg #[.string xs, .int .i64 xa], .int .i64 n] W fun e w' => e = .returned (.tuple #[.int .i64 (liV xs xa n), .agg #[.string (byS xs xa n), .int .i64 (byA xs xa n)], .int .i64 (byE xs.size xa n)]) ∧ Below W.heap.size W w') := HP
  have BQ := hq
  clear HP hs h1 h4 hq
  generalize liV xs xa n = v at *
  generalize byS xs xa n = ys at *
  generalize byA xs xa n = ya at *
  generalize byE xs.size xa n = ye at *
  go_enter Try.func74, Try.ntmps74
  go_wp2_with (first
    | (refine wl_box 46 _ _ rfl rfl (show _ = Value.agg #[.string xs, .int .i64 xa] from rfl) ?_; intro W1 bx Bx_1 l1 k1; have gx : w.heap.size ≤ bx := l1; have nqx : bq ≠ bx := Nat.ne_of_lt (Nat.lt_of_lt_of_le BQ.lt l1); have Bq_1 := BQ.keep k1; have Hw1 := k1; clear l1 k1 BQ)
    | (refine wl_alloc 46 _ zero51r rfl rfl ?_; intro W2 bo Bo_2 l2 k2; have go : w.heap.size ≤ bo := Nat.le_trans Hw1.size l2; have nqo : bq ≠ bo := Nat.ne_of_lt (Nat.lt_of_lt_of_le Bq_1.lt l2); have nxo : bx ≠ bo := Nat.ne_of_lt (Nat.lt_of_lt_of_le Bx_1.lt l2); have Bq_2 := Bq_1.keep k2; have Bx_2 := Bx_1.keep k2; have Hw2 := bq_trans Hw1 k2; clear l2 k2 Bq_1 Bx_1 Hw1; have cq_0_2 : W2.cell? ⟨bq, 0, none⟩ = some (.int .i64 n) := Bq_2.cell 0)
    | (refine wl_load 46 2 _ Try.underlying46 rfl size51r _ rfl rfl _ rfl _ _ Bx_2 rfl ?_)
    | (go_at_call 75; (with_reducible refine (HP2.out _).mono ?_); rintro e W3 ⟨rfl, k3⟩; have Bq_3 := Bq_2.keep k3; have Bx_3 := Bx_2.keep k3; have Bo_3 := Bo_2.keep k3; have Hw3 := bq_trans Hw2 k3; clear k3 Bq_2 Bx_2 Bo_2 cq_0_2 Hw2)
    | (refine wl_store 46 2 size51r _ _ rfl rfl _ rfl #[.string ys, .int .i64 ya] rfl _ _ Bo_3 rfl rfl (by kernel_rfl) ?_; intro W4 Bo_4 T4; have Bq_4 := T4.blk Bq_3 nqo; have Bx_4 := T4.blk Bx_3 nxo; have Hw4 := T4.below Hw3 go; clear T4 Bq_3 Bx_3 Bo_3 Hw3))
  exact post_tct Try.underlying46 rfl size51r Try.results74 Bo_4 rfl rfl rfl rfl rfl ⟨rfl, Hw4⟩
theorem takeint_err (x : RS) (f : Value) (b : Nat) (w : World) (hx : Tk8 w b x) (he : x.e ≠ 0) :
    Calls Try.prog 73 #[.pointer (some ⟨b, 0, none⟩), f] w fun e w' => e = .returned (.int .i64 0) ∧ w = w' := by
  have c2 : w.cell? ⟨b, 2, none⟩ = some (.int .i64 x.e) := Blk.cell hx 2
  have q : (x.e == 0) = false := beq_eq_false_iff_ne.2 he
  clear hx he
  go_enter Try.func73, Try.ntmps73
  go_wp2
  go_ret
  exact ⟨rfl, rfl⟩
theorem takeint_ok (xs ys : ByteArray) (xa v ya ye n : Int) (bq bp : Nat) (t : TypeId) (w : World) (hx : Tk8 w bp ⟨xs, xa, 0⟩) (hq : Blk w bq #[.int .i64 n] t) (npq : bp ≠ bq)
    (HP : Hid (∀ W, Blk W bq #[.int .i64 n] t → Calls Try.prog 74 #[.agg #[.string xs, .int .i64 xa], .pointer (some ⟨bq, 0, none⟩)] W fun e w' => e = .returned (.tuple #[.int .i64 v, .agg #[.string ys, .int .i64 ya], .int .i64 ye]) ∧ Below W.heap.size W w')) :
    Calls Try.prog 73 #[.pointer (some ⟨bp, 0, none⟩), .func (.func 74) #[] #[.pointer (some ⟨bq, 0, none⟩)]] w fun e w' => e = .returned (.int .i64 v) ∧ Tk8 w' bp ⟨ys, ya, ye⟩ ∧ But bp bp w w' := by
  have Bp_0 : Blk w bp #[.string xs, .int .i64 xa, .int .i64 0] 79 := hx
  have Bq_0 := hq
  have nq : bq = bp ∨ w.heap.size ≤ bq → True := fun _ => trivial
  have hpw := Bp_0.lt
  have HBt : Bt bp w w := but_refl _ _ _
  have SM : SzM w w.heap.size w.heap.size := ⟨Nat.le_refl _⟩
  have hsz : w.heap.size ≤ w.heap.size := Nat.le_refl _
  have d0 : w.cell? ⟨bp, 0, none⟩ = some (.string xs) := Bp_0.cell 0
  have d1 : w.cell? ⟨bp, 1, none⟩ = some (.int .i64 xa) := Bp_0.cell 1
  have d2 : w.cell? ⟨bp, 2, none⟩ = some (.int .i64 0) := Bp_0.cell 2
  clear hx hq nq
  go_enter Try.func73, Try.ntmps73
  go_wp2_with (first
    | (fail)
    | (go_at_call 74; (with_reducible refine (HP.out _ Bq_0).mono ?_); rintro e W1 ⟨rfl, k1⟩; have Bp_1 := Bp_0.keep k1; have Bq_1 := Bq_0.keep k1; have Ob_1 := HBt.keep k1; have Om_1 := SM.keep k1; clear k1 Bp_0 Bq_0 HBt SM)
    | (refine wl_putAt 46 _ _ rfl rfl bp 0 rfl #[.string ys, .int .i64 ya] rfl size51r (by kernel_rfl) _ _ Bp_1 (by decide : 0 + 2 ≤ 3) #[.string ys, .int .i64 ya, .int .i64 0] (by kernel_rfl) ?_; intro W2 Bp_2 T2; have Bq_2 := T2.blk Bq_1 (Ne.symm npq); have Ob_2 := Ob_1.turned T2 (Or.inl rfl); have Om_2 := Om_1.turned T2 (Or.inl hpw); clear T2 Bq_1 Ob_1 Om_1 Bp_1)
    | (refine wl_set 41 _ _ rfl rfl bp 2 rfl (.int .i64 ye) rfl rfl sizeER8 _ _ Bp_2 (by decide : 2 < 3) ?_; intro W3 Bp_3 T3; have Bq_3 := T3.blk Bq_2 (Ne.symm npq); have Ob_3 := Ob_2.turned T3 (Or.inl rfl); have Om_3 := Om_2.turned T3 (Or.inl hpw); clear T3 Bq_2 Ob_2 Om_2 Bp_2))
  go_ret
  exact ⟨rfl, Bp_3, Ob_3⟩
theorem takeint_any (x : RS) (n : Int) (bq bp : Nat) (t : TypeId) (w : World) (hx : Tk8 w bp x) (hq : Blk w bq #[.int .i64 n] t) (npq : bp ≠ bq) (hs : x.s.size ≤ 1000000) (h1 : 1 ≤ n) (h4 : n ≤ 4) :
    Calls Try.prog 73 #[.pointer (some ⟨bp, 0, none⟩), .func (.func 74) #[] #[.pointer (some ⟨bq, 0, none⟩)]] w fun e w' => e = .returned (.int .i64 (x.li n)) ∧ Tk8 w' bp (x.liS n) ∧ But bp bp w w' := by
  by_cases he : x.e = 0
  · have e1 : x.li n = liV x.s x.a n := if_pos he
    have e2 : x.liS n = ⟨byS x.s x.a n, byA x.s x.a n, byE x.s.size x.a n⟩ := if_pos he
    rw [e1, e2]
    obtain ⟨xs, xa, xe⟩ := x
    dsimp only at he hs
    subst he
    exact takeint_ok xs _ xa _ _ _ n bq bp t w hx hq npq (Lib.hid fun W hW => number1_any xs xa n bq t W hs h1 h4 hW)
  · have e1 : x.li n = 0 := if_neg he
    have e2 : x.liS n = x := if_neg he
    rw [e1, e2]
    exact (takeint_err x _ bp w hx he).mono fun e w' ⟨g1, g2⟩ => ⟨g1, g2 ▸ hx, g2 ▸ but_refl _ _ _⟩
theorem wl_boxI {P : Program} {ops : Array Oper} {rest : List Oper} {o : Oper} {a : Act} {w : World} {Q : Exit → Act → World → Prop} {ty : TypeId} (x : Operand) (n : Int) (ho : o.op = .box ty x) (hgd : o.guard = none) (hx : a.eval x = .int .i64 n)
    (h : ∀ W b, Blk W b #[.int .i64 n] ty → w.heap.size ≤ b → Below w.heap.size w W → wpList P ops Q rest (a.put o.dst (.pointer (some ⟨b, 0, none⟩))) W) : wpList P ops Q (o :: rest) a w := by
  refine wpList_plain hgd fun K hK => ?_
  have := h (w.alloc (.cells #[.int .i64 n] ty)) w.heap.size (blk_new w _ ty) (Nat.le_refl _) (bq_alloc (bq_refl w) _)
  unfold Oper.wp execOp
  simp only [ho, hx, Instr.box, Sem.run_bind, newVar, newRow, Value.cells]
  exact hK _ _ this
theorem tnumber_any (x : RS) (n : Int) (bp : Nat) (w : World) (hx : Tk8 w bp x) (hs : x.s.size ≤ 1000000) (h1 : 1 ≤ n) (h4 : n ≤ 4) :
    Calls Try.prog 55 #[.pointer (some ⟨bp, 0, none⟩), .int .i64 n] w fun e w' => e = .returned (.int .i64 (x.li n)) ∧ Tk8 w' bp (x.liS n) ∧ But bp bp w w' := by
  have HT : Hid (∀ W, Blk W bp x.cells 79 → ∀ {bq : Nat} {t : TypeId}, Blk W bq #[.int .i64 n] t → bp ≠ bq → Calls Try.prog 73 #[.pointer (some ⟨bp, 0, none⟩), .func (.func 74) #[] #[.pointer (some ⟨bq, 0, none⟩)]] W fun e w' => e = .returned (.int .i64 (x.li n)) ∧ Blk w' bp (x.liS n).cells 79 ∧ But bp bp W w') := Lib.hid fun W g1 bq t g2 g3 => takeint_any x n bq bp t W g1 g2 g3 hs h1 h4
  show Calls _ _ _ _ fun e w' => _ ∧ Blk w' bp (x.liS n).cells 79 ∧ _
  have Bp_0 : Blk w bp x.cells 79 := hx
  have hpw := Bp_0.lt
  have HBt : Bt bp w w := but_refl _ _ _
  have SM : SzM w w.heap.size w.heap.size := ⟨Nat.le_refl _⟩
  have hsz : w.heap.size ≤ w.heap.size := Nat.le_refl _
  clear hx hs h1 h4
  generalize x.li n = v at *
  generalize (x.liS n).cells = yc at *
  go_enter Try.func55, Try.ntmps55
  go_wp2_with (first
    | (refine wl_boxI _ _ rfl rfl rfl ?_; intro W1 bq Bq_1 l1 k1; have npq : bp ≠ bq := Nat.ne_of_lt (Nat.lt_of_lt_of_le Bp_0.lt l1); have loq := Nat.le_trans SM.le l1; have Bp_1 := Bp_0.keep k1; have Ob_1 := HBt.keep k1; have Om_1 := SM.keep k1; clear l1 k1 Bp_0 HBt SM)
    | (go_at_call 73; (with_reducible refine (HT.out _ Bp_1 Bq_1 npq).mono ?_); rintro e W2 ⟨rfl, Bp_2, k2⟩; have Bq_2 := Bq_1.but k2 (Ne.symm npq) (Ne.symm npq); have Ob_2 := Ob_1.but k2 (Or.inl rfl); have Om_2 := Om_1.but k2 (Or.inl hpw); clear k2 Bq_1 Ob_1 Om_1 Bp_1))
  go_ret
  exact ⟨rfl, Bp_2, Ob_2⟩
theorem takecol_err (xs : ByteArray) (xa xe : Int) (bp : Nat) (w : World) (Bp_0 : Blk w bp #[.string xs, .int .i64 xa, .int .i64 xe] 79) (q : (xe == 0) = false) :
    Calls Try.prog 57 #[.pointer (some ⟨bp, 0, none⟩), .func (.func 58) #[] #[]] w fun e w' => e = .returned (.agg #[.int .i64 0, .int .i64 0, .int .i64 0, .int .i64 0]) ∧ Blk w' bp #[.string xs, .int .i64 xa, .int .i64 xe] 79 ∧ But bp bp w w' := by
  have hpw := Bp_0.lt
  have HBt : Bt bp w w := but_refl _ _ _
  have SM : SzM w w.heap.size w.heap.size := ⟨Nat.le_refl _⟩
  have hsz : w.heap.size ≤ w.heap.size := Nat.le_refl _
  go_enter Try.func57, Try.ntmps57
  go_wp2_with (first
    | (refine wl_alloc 23 _ zeroRG8 rfl rfl ?_; intro W1 bo Bo_1 l1 k1; have npo : bp ≠ bo := Nat.ne_of_lt (Nat.lt_of_lt_of_le Bp_0.lt l1); have loo := Nat.le_trans SM.le l1; have Bp_1 := Bp_0.keep k1; have Ob_1 := HBt.keep k1; have Om_1 := SM.keep k1; clear l1 k1 Bp_0 HBt SM)
    | (refine wl_alloc 23 _ zeroRG8 rfl rfl ?_; intro W2 bv Bv_2 l2 k2; have npv : bp ≠ bv := Nat.ne_of_lt (Nat.lt_of_lt_of_le Bp_1.lt l2); have nov : bo ≠ bv := Nat.ne_of_lt (Nat.lt_of_lt_of_le Bo_1.lt l2); have lov := Nat.le_trans Om_1.le l2; have Bp_2 := Bp_1.keep k2; have Bo_2 := Bo_1.keep k2; have Ob_2 := Ob_1.keep k2; have Om_2 := Om_1.keep k2; clear l2 k2 Bp_1 Bo_1 Ob_1 Om_1; have cp_2_2 : W2.cell? ⟨bp, 2, none⟩ = some (.int .i64 xe) := Bp_2.cell 2)
    | (refine wl_load 23 4 _ Try.underlying23 rfl sizeRG8 _ rfl rfl _ rfl _ _ Bv_2 rfl ?_)
    | (refine wl_store 23 4 sizeRG8 _ _ rfl rfl _ rfl #[.int .i64 0, .int .i64 0, .int .i64 0, .int .i64 0] rfl _ _ Bo_2 rfl rfl (by kernel_rfl) ?_; intro W3 Bo_3 T3; have Bp_3 := T3.blk Bp_2 npo; have Bv_3 := T3.blk Bv_2 (Ne.symm nov); have Ob_3 := Ob_2.turned T3 (Or.inr (Nat.le_trans hsz loo)); have Om_3 := Om_2.turned T3 (Or.inr loo); clear T3 Bp_2 Bv_2 Ob_2 Om_2 cp_2_2 Bo_2))
  exact post_cell Try.underlying23 rfl sizeRG8 Try.results57 Bo_3 rfl rfl rfl ⟨rfl, Bp_3, Ob_3⟩
theorem takecol_ok (xs ys : ByteArray) (xa ya ye v0 v1 v2 v3 : Int) (bp : Nat) (w : World) (Bp_0 : Blk w bp #[.string xs, .int .i64 xa, .int .i64 0] 79)
    (HP : Hid (∀ W, Calls Try.prog 58 #[.agg #[.string xs, .int .i64 xa]] W fun e w' => e = .returned (.tuple #[.agg #[.int .i64 v0, .int .i64 v1, .int .i64 v2, .int .i64 v3], .agg #[.string ys, .int .i64 ya], .int .i64 ye]) ∧ Below W.heap.size W w')) :
    Calls Try.prog 57 #[.pointer (some ⟨bp, 0, none⟩), .func (.func 58) #[] #[]] w fun e w' => e = .returned (.agg #[.int .i64 v0, .int .i64 v1, .int .i64 v2, .int .i64 v3]) ∧ Blk w' bp #[.string ys, .int .i64 ya, .int .i64 ye] 79 ∧ But bp bp w w' := by
  have hpw := Bp_0.lt
  have HBt : Bt bp w w := but_refl _ _ _
  have SM : SzM w w.heap.size w.heap.size := ⟨Nat.le_refl _⟩
  have hsz : w.heap.size ≤ w.heap.size := Nat.le_refl _
  go_enter Try.func57, Try.ntmps57
  go_wp2_with (first
    | (refine wl_alloc 23 _ zeroRG8 rfl rfl ?_; intro W1 bo Bo_1 l1 k1; have npo : bp ≠ bo := Nat.ne_of_lt (Nat.lt_of_lt_of_le Bp_0.lt l1); have loo := Nat.le_trans SM.le l1; have Bp_1 := Bp_0.keep k1; have Ob_1 := HBt.keep k1; have Om_1 := SM.keep k1; clear l1 k1 Bp_0 HBt SM)
    | (refine wl_alloc 23 _ zeroRG8 rfl rfl ?_; intro W2 bv Bv_2 l2 k2; have npv : bp ≠ bv := Nat.ne_of_lt (Nat.lt_of_lt_of_le Bp_1.lt l2); have nov : bo ≠ bv := Nat.ne_of_lt (Nat.lt_of_lt_of_le Bo_1.lt l2); have lov := Nat.le_trans Om_1.le l2; have Bp_2 := Bp_1.keep k2; have Bo_2 := Bo_1.keep k2; have Ob_2 := Ob_1.keep k2; have Om_2 := Om_1.keep k2; clear l2 k2 Bp_1 Bo_1 Ob_1 Om_1; have cp_0_2 : W2.cell? ⟨bp, 0, none⟩ = some (.string xs) := Bp_2.cell 0; have cp_1_2 : W2.cell? ⟨bp, 1, none⟩ = some (.int .i64 xa) := Bp_2.cell 1; have cp_2_2 : W2.cell? ⟨bp, 2, none⟩ = some (.int .i64 0) := Bp_2.cell 2)
    | (go_at_call 58; (with_reducible refine (HP.out _).mono ?_); rintro e W3 ⟨rfl, k3⟩; have Bp_3 := Bp_2.keep k3; have Bo_3 := Bo_2.keep k3; have Bv_3 := Bv_2.keep k3; have Ob_3 := Ob_2.keep k3; have Om_3 := Om_2.keep k3; clear k3 Bp_2 Bo_2 Bv_2 Ob_2 Om_2 cp_0_2 cp_1_2 cp_2_2)
    | (refine wl_store 23 4 sizeRG8 _ _ rfl rfl _ rfl #[.int .i64 v0, .int .i64 v1, .int .i64 v2, .int .i64 v3] rfl _ _ Bv_3 rfl rfl (by kernel_rfl) ?_; intro W4 Bv_4 T4; have Bp_4 := T4.blk Bp_3 npv; have Bo_4 := T4.blk Bo_3 nov; have Ob_4 := Ob_3.turned T4 (Or.inr (Nat.le_trans hsz lov)); have Om_4 := Om_3.turned T4 (Or.inr lov); clear T4 Bp_3 Bo_3 Ob_3 Om_3 Bv_3)
    | (refine wl_putAt 46 _ _ rfl rfl bp 0 rfl #[.string ys, .int .i64 ya] rfl size51r (by kernel_rfl) _ _ Bp_4 (by decide : 0 + 2 ≤ 3) #[.string ys, .int .i64 ya, .int .i64 0] (by kernel_rfl) ?_; intro W5 Bp_5 T5; have Bo_5 := T5.blk Bo_4 (Ne.symm npo); have Bv_5 := T5.blk Bv_4 (Ne.symm npv); have Ob_5 := Ob_4.turned T5 (Or.inl rfl); have Om_5 := Om_4.turned T5 (Or.inl hpw); clear T5 Bo_4 Bv_4 Ob_4 Om_4 Bp_4)
    | (refine wl_set 41 _ _ rfl rfl bp 2 rfl (.int .i64 ye) rfl rfl sizeER8 _ _ Bp_5 (by decide : 2 < 3) ?_; intro W6 Bp_6 T6; have Bo_6 := T6.blk Bo_5 (Ne.symm npo); have Bv_6 := T6.blk Bv_5 (Ne.symm npv); have Ob_6 := Ob_5.turned T6 (Or.inl rfl); have Om_6 := Om_5.turned T6 (Or.inl hpw); clear T6 Bo_5 Bv_5 Ob_5 Om_5 Bp_5)
    | (refine wl_load 23 4 _ Try.underlying23 rfl sizeRG8 _ rfl rfl _ rfl _ _ Bv_6 rfl ?_)
    | (refine wl_store 23 4 sizeRG8 _ _ rfl rfl _ rfl #[.int .i64 v0, .int .i64 v1, .int .i64 v2, .int .i64 v3] rfl _ _ Bo_6 rfl rfl (by kernel_rfl) ?_; intro W7 Bo_7 T7; have Bp_7 := T7.blk Bp_6 npo; have Bv_7 := T7.blk Bv_6 (Ne.symm nov); have Ob_7 := Ob_6.turned T7 (Or.inr (Nat.le_trans hsz loo)); have Om_7 := Om_6.turned T7 (Or.inr loo); clear T7 Bp_6 Bv_6 Ob_6 Om_6 Bo_6))
  exact post_cell Try.underlying23 rfl sizeRG8 Try.results57 Bo_7 rfl rfl rfl ⟨rfl, Bp_7, Ob_7⟩
theorem takecol_any (x : RS) (bp : Nat) (w : World) (hx : Tk8 w bp x) (hs : x.s.size ≤ 1000000) :
    Calls Try.prog 57 #[.pointer (some ⟨bp, 0, none⟩), .func (.func 58) #[] #[]] w fun e w' => e = .returned (.agg (iA x.cv)) ∧ Tk8 w' bp x.cvS ∧ But bp bp w w' := by
  by_cases he : x.e = 0
  · obtain ⟨v0, v1, v2, v3, hv⟩ := list4 _ (rgV_len8 x.s x.a)
    have e1 : x.cv = [v0, v1, v2, v3] := (if_pos he).trans hv
    have e2 : x.cvS = _ := if_pos he
    rw [e1, e2]
    have HP := Lib.hid (fun W => takergba_any x.s x.a W hs)
    rw [hv] at HP
    obtain ⟨xs, xa, xe⟩ := x
    dsimp only at he hs hv HP
    subst he
    exact takecol_ok xs _ xa _ _ _ _ _ _ bp w hx HP
  · have e1 : x.cv = [0, 0, 0, 0] := if_neg he
    have e2 : x.cvS = x := if_neg he
    rw [e1, e2]
    exact takecol_err x.s x.a x.e bp w hx (beq_eq_false_iff_ne.2 he)
theorem takemat_err (xs : ByteArray) (xa xe : Int) (bp : Nat) (w : World) (Bp_0 : Blk w bp #[.string xs, .int .i64 xa, .int .i64 xe] 79) (q : (xe == 0) = false) :
    Calls Try.prog 59 #[.pointer (some ⟨bp, 0, none⟩), .func (.func 60) #[] #[]] w fun e w' => e = .returned (.agg #[.int .i64 0, .int .i64 0, .int .i64 0, .int .i64 0, .int .i64 0, .int .i64 0]) ∧ Blk w' bp #[.string xs, .int .i64 xa, .int .i64 xe] 79 ∧ But bp bp w w' := by
  have hpw := Bp_0.lt
  have HBt : Bt bp w w := but_refl _ _ _
  have SM : SzM w w.heap.size w.heap.size := ⟨Nat.le_refl _⟩
  have hsz : w.heap.size ≤ w.heap.size := Nat.le_refl _
  go_enter Try.func59, Try.ntmps59
  go_wp2_with (first
    | (refine wl_alloc 25 _ zeroMT8 rfl rfl ?_; intro W1 bo Bo_1 l1 k1; have npo : bp ≠ bo := Nat.ne_of_lt (Nat.lt_of_lt_of_le Bp_0.lt l1); have loo := Nat.le_trans SM.le l1; have Bp_1 := Bp_0.keep k1; have Ob_1 := HBt.keep k1; have Om_1 := SM.keep k1; clear l1 k1 Bp_0 HBt SM)
    | (refine wl_alloc 25 _ zeroMT8 rfl rfl ?_; intro W2 bv Bv_2 l2 k2; have npv : bp ≠ bv := Nat.ne_of_lt (Nat.lt_of_lt_of_le Bp_1.lt l2); have nov : bo ≠ bv := Nat.ne_of_lt (Nat.lt_of_lt_of_le Bo_1.lt l2); have lov := Nat.le_trans Om_1.le l2; have Bp_2 := Bp_1.keep k2; have Bo_2 := Bo_1.keep k2; have Ob_2 := Ob_1.keep k2; have Om_2 := Om_1.keep k2; clear l2 k2 Bp_1 Bo_1 Ob_1 Om_1; have cp_2_2 : W2.cell? ⟨bp, 2, none⟩ = some (.int .i64 xe) := Bp_2.cell 2)
    | (refine wl_load 25 6 _ Try.underlying25 rfl sizeMT8 _ rfl rfl _ rfl _ _ Bv_2 rfl ?_)
    | (refine wl_store 25 6 sizeMT8 _ _ rfl rfl _ rfl #[.int .i64 0, .int .i64 0, .int .i64 0, .int .i64 0, .int .i64 0, .int .i64 0] rfl _ _ Bo_2 rfl rfl (by kernel_rfl) ?_; intro W3 Bo_3 T3; have Bp_3 := T3.blk Bp_2 npo; have Bv_3 := T3.blk Bv_2 (Ne.symm nov); have Ob_3 := Ob_2.turned T3 (Or.inr (Nat.le_trans hsz loo)); have Om_3 := Om_2.turned T3 (Or.inr loo); clear T3 Bp_2 Bv_2 Ob_2 Om_2 cp_2_2 Bo_2))
  exact post_cell Try.underlying25 rfl sizeMT8 Try.results59 Bo_3 rfl rfl rfl ⟨rfl, Bp_3, Ob_3⟩
theorem takemat_ok (xs ys : ByteArray) (xa ya ye v0 v1 v2 v3 v4 v5 : Int) (bp : Nat) (w : World) (Bp_0 : Blk w bp #[.string xs, .int .i64 xa, .int .i64 0] 79)
    (HP : Hid (∀ W, Calls Try.prog 60 #[.agg #[.string xs, .int .i64 xa]] W fun e w' => e = .returned (.tuple #[.agg #[.int .i64 v0, .int .i64 v1, .int .i64 v2, .int .i64 v3, .int .i64 v4, .int .i64 v5], .agg #[.string ys, .int .i64 ya], .int .i64 ye]) ∧ Below W.heap.size W w')) :
    Calls Try.prog 59 #[.pointer (some ⟨bp, 0, none⟩), .func (.func 60) #[] #[]] w fun e w' => e = .returned (.agg #[.int .i64 v0, .int .i64 v1, .int .i64 v2, .int .i64 v3, .int .i64 v4, .int .i64 v5]) ∧ Blk w' bp #[.string ys, .int .i64 ya, .int .i64 ye] 79 ∧ But bp bp w w' := by
  have hpw := Bp_0.lt
  have HBt : Bt bp w w := but_refl _ _ _
  have SM : SzM w w.heap.size w.heap.size := ⟨Nat.le_refl _⟩
  have hsz : w.heap.size ≤ w.heap.size := Nat.le_refl _
  go_enter Try.func59, Try.ntmps59
  go_wp2_with (first
    | (refine wl_alloc 25 _ zeroMT8 rfl rfl ?_; intro W1 bo Bo_1 l1 k1; have npo : bp ≠ bo := Nat.ne_of_lt (Nat.lt_of_lt_of_le Bp_0.lt l1); have loo := Nat.le_trans SM.le l1; have Bp_1 := Bp_0.keep k1; have Ob_1 := HBt.keep k1; have Om_1 := SM.keep k1; clear l1 k1 Bp_0 HBt SM)
    | (refine wl_alloc 25 _ zeroMT8 rfl rfl ?_; intro W2 bv Bv_2 l2 k2; have npv : bp ≠ bv := Nat.ne_of_lt (Nat.lt_of_lt_of_le Bp_1.lt l2); have nov : bo ≠ bv := Nat.ne_of_lt (Nat.lt_of_lt_of_le Bo_1.lt l2); have lov := Nat.le_trans Om_1.le l2; have Bp_2 := Bp_1.keep k2; have Bo_2 := Bo_1.keep k2; have Ob_2 := Ob_1.keep k2; have Om_2 := Om_1.keep k2; clear l2 k2 Bp_1 Bo_1 Ob_1 Om_1; have cp_0_2 : W2.cell? ⟨bp, 0, none⟩ = some (.string xs) := Bp_2.cell 0; have cp_1_2 : W2.cell? ⟨bp, 1, none⟩ = some (.int .i64 xa) := Bp_2.cell 1; have cp_2_2 : W2.cell? ⟨bp, 2, none⟩ = some (.int .i64 0) := Bp_2.cell 2)
    | (go_at_call 60; (with_reducible refine (HP.out _).mono ?_); rintro e W3 ⟨rfl, k3⟩; have Bp_3 := Bp_2.keep k3; have Bo_3 := Bo_2.keep k3; have Bv_3 := Bv_2.keep k3; have Ob_3 := Ob_2.keep k3; have Om_3 := Om_2.keep k3; clear k3 Bp_2 Bo_2 Bv_2 Ob_2 Om_2 cp_0_2 cp_1_2 cp_2_2)
    | (refine wl_store 25 6 sizeMT8 _ _ rfl rfl _ rfl #[.int .i64 v0, .int .i64 v1, .int .i64 v2, .int .i64 v3, .int .i64 v4, .int .i64 v5] rfl _ _ Bv_3 rfl rfl (by kernel_rfl) ?_; intro W4 Bv_4 T4; have Bp_4 := T4.blk Bp_3 npv; have Bo_4 := T4.blk Bo_3 nov; have Ob_4 := Ob_3.turned T4 (Or.inr (Nat.le_trans hsz lov)); have Om_4 := Om_3.turned T4 (Or.inr lov); clear T4 Bp_3 Bo_3 Ob_3 Om_3 Bv_3)
    | (refine wl_putAt 46 _ _ rfl rfl bp 0 rfl #[.string ys, .int .i64 ya] rfl size51r (by kernel_rfl) _ _ Bp_4 (by decide : 0 + 2 ≤ 3) #[.string ys, .int .i64 ya, .int .i64 0] (by kernel_rfl) ?_; intro W5 Bp_5 T5; have Bo_5 := T5.blk Bo_4 (Ne.symm npo); have Bv_5 := T5.blk Bv_4 (Ne.symm npv); have Ob_5 := Ob_4.turned T5 (Or.inl rfl); have Om_5 := Om_4.turned T5 (Or.inl hpw); clear T5 Bo_4 Bv_4 Ob_4 Om_4 Bp_4)
    | (refine wl_set 41 _ _ rfl rfl bp 2 rfl (.int .i64 ye) rfl rfl sizeER8 _ _ Bp_5 (by decide : 2 < 3) ?_; intro W6 Bp_6 T6; have Bo_6 := T6.blk Bo_5 (Ne.symm npo); have Bv_6 := T6.blk Bv_5 (Ne.symm npv); have Ob_6 := Ob_5.turned T6 (Or.inl rfl); have Om_6 := Om_5.turned T6 (Or.inl hpw); clear T6 Bo_5 Bv_5 Ob_5 Om_5 Bp_5)
    | (refine wl_load 25 6 _ Try.underlying25 rfl sizeMT8 _ rfl rfl _ rfl _ _ Bv_6 rfl ?_)
    | (refine wl_store 25 6 sizeMT8 _ _ rfl rfl _ rfl #[.int .i64 v0, .int .i64 v1, .int .i64 v2, .int .i64 v3, .int .i64 v4, .int .i64 v5] rfl _ _ Bo_6 rfl rfl (by kernel_rfl) ?_; intro W7 Bo_7 T7; have Bp_7 := T7.blk Bp_6 npo; have Bv_7 := T7.blk Bv_6 (Ne.symm nov); have Ob_7 := Ob_6.turned T7 (Or.inr (Nat.le_trans hsz loo)); have Om_7 := Om_6.turned T7 (Or.inr loo); clear T7 Bp_6 Bv_6 Ob_6 Om_6 Bo_6))
  exact post_cell Try.underlying25 rfl sizeMT8 Try.results59 Bo_7 rfl rfl rfl ⟨rfl, Bp_7, Ob_7⟩
theorem takemat_any (x : RS) (bp : Nat) (w : World) (hx : Tk8 w bp x) (hs : x.s.size ≤ 1000000) :
    Calls Try.prog 59 #[.pointer (some ⟨bp, 0, none⟩), .func (.func 60) #[] #[]] w fun e w' => e = .returned (.agg (iA x.mv)) ∧ Tk8 w' bp x.mvS ∧ But bp bp w w' := by
  by_cases he : x.e = 0
  · obtain ⟨v0, v1, v2, v3, v4, v5, hv⟩ := list6 _ (matV_len (RS.begP x.s x.a))
    have e1 : x.mv = [v0, v1, v2, v3, v4, v5] := (if_pos he).trans hv
    have e2 : x.mvS = _ := if_pos he
    rw [e1, e2]
    have HP := Lib.hid (fun W => takematrix_any x.s x.a W hs)
    rw [hv] at HP
    obtain ⟨xs, xa, xe⟩ := x
    dsimp only at he hs hv HP
    subst he
    exact takemat_ok xs _ xa _ _ _ _ _ _ _ _ bp w hx HP
  · have e1 : x.mv = [0, 0, 0, 0, 0, 0] := if_neg he
    have e2 : x.mvS = x := if_neg he
    rw [e1, e2]
    exact takemat_err x.s x.a x.e bp w hx (beq_eq_false_iff_ne.2 he)
theorem ptstroke_any (x : RS) (bp : Nat) (w : World) (hx : Tk8 w bp x) (hs : x.s.size ≤ 1000000) :
    Calls Try.prog 44 #[.pointer (some ⟨bp, 0, none⟩)] w fun e w' => e = .returned (.agg (iA (x.li 2 :: (x.liS 2).cv))) ∧ Tk8 w' bp (x.liS 2).cvS ∧ But bp bp w w' := by
  have HN : Hid (∀ W, Blk W bp x.cells 79 → Calls Try.prog 55 #[.pointer (some ⟨bp, 0, none⟩), .int .i64 2] W fun e w' => e = .returned (.int .i64 (x.li 2)) ∧ Blk w' bp (x.liS 2).cells 79 ∧ But bp bp W w') := Lib.hid fun W h => tnumber_any x 2 bp W h hs (by decide) (by decide)
  have HC : Hid (∀ W, Blk W bp (x.liS 2).cells 79 → Calls Try.prog 57 #[.pointer (some ⟨bp, 0, none⟩), .func (.func 58) #[] #[]] W fun e w' => e = .returned (.agg (iA (x.liS 2).cv)) ∧ Blk w' bp (x.liS 2).cvS.cells 79 ∧ But bp bp W w') := Lib.hid fun W h => takecol_any (x.liS 2) bp W h (RS.liS_size _ _ hs)
  obtain ⟨r, g, b, a, hcv⟩ := list4 _ (cv_len (x.liS 2))
  rw [hcv] at HC ⊢
  have HC2 : Hid (∀ W, Blk W bp (x.liS 2).cells 79 → Calls Try.prog 57 #[.pointer (some ⟨bp, 0, none⟩), .func (.func 58) #[] #[]] W fun e w' => e = .returned (.agg #[.int .i64 r, .int .i64 g, .int .i64 b, .int .i64 a]) ∧ Blk w' bp (x.liS 2).cvS.cells 79 ∧ But bp bp W w') := HC
  clear HC
  show Calls _ _ _ _ fun e w' => _ ∧ Blk w' bp (x.liS 2).cvS.cells 79 ∧ _
  have Bp_0 : Blk w bp x.cells 79 := hx
  have hpw := Bp_0.lt
  have HBt : Bt bp w w := but_refl _ _ _
  have SM : SzM w w.heap.size w.heap.size := ⟨Nat.le_refl _⟩
  have hsz : w.heap.size ≤ w.heap.size := Nat.le_refl _
  clear hx hs hcv
  generalize x.li 2 = v at *
  generalize (x.liS 2).cells = yc at *
  generalize (x.liS 2).cvS.cells = zc at *
  go_enter Try.func44, Try.ntmps44
  go_wp2_with (first
    | (refine wl_alloc 30 _ zeroSK rfl rfl ?_; intro W1 bo Bo_1 l1 k1; have npo : bp ≠ bo := Nat.ne_of_lt (Nat.lt_of_lt_of_le Bp_0.lt l1); have loo := Nat.le_trans SM.le l1; have Bp_1 := Bp_0.keep k1; have Ob_1 := HBt.keep k1; have Om_1 := SM.keep k1; clear l1 k1 Bp_0 HBt SM)
    | (go_at_call 55; (with_reducible refine (HN.out _ Bp_1).mono ?_); rintro e W2 ⟨rfl, Bp_2, k2⟩; have Bo_2 := Bo_1.but k2 (Ne.symm npo) (Ne.symm npo); have Ob_2 := Ob_1.but k2 (Or.inl rfl); have Om_2 := Om_1.but k2 (Or.inl hpw); clear k2 Bo_1 Ob_1 Om_1 Bp_1)
    | (go_at_call 57; (with_reducible refine (HC2.out _ Bp_2).mono ?_); rintro e W3 ⟨rfl, Bp_3, k3⟩; have Bo_3 := Bo_2.but k3 (Ne.symm npo) (Ne.symm npo); have Ob_3 := Ob_2.but k3 (Or.inl rfl); have Om_3 := Om_2.but k3 (Or.inl hpw); clear k3 Bo_2 Ob_2 Om_2 Bp_2)
    | (refine wl_store 30 5 sizeSK _ _ rfl rfl _ rfl #[.int .i64 v, .int .i64 r, .int .i64 g, .int .i64 b, .int .i64 a] rfl _ _ Bo_3 rfl rfl (by kernel_rfl) ?_; intro W4 Bo_4 T4; have Bp_4 := T4.blk Bp_3 npo; have Ob_4 := Ob_3.turned T4 (Or.inr (Nat.le_trans hsz loo)); have Om_4 := Om_3.turned T4 (Or.inr loo); clear T4 Bp_3 Ob_3 Om_3 Bo_3))
  exact post_cell Try.underlying30 rfl sizeSK Try.results44 Bo_4 rfl rfl rfl ⟨rfl, Bp_4, Ob_4⟩
end Go.Proofs.Ythlnjipefeglpaa
