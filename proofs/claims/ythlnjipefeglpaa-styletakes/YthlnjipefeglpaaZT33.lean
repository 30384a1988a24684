import Derived.Test.YthlnjipefeglpaaZT32
import Derived.Test.YthlnjipefeglpaaZT7
import Derived.Deep.MidRow
namespace Go.Proofs.Ythlnjipefeglpaa.Dex
open Go Go.RowKit
set_option linter.unusedVariables false
section
variable {P : Program} {ops : Array Oper} {Q : Exit → Act → World → Prop} {S : World → Prop} {R : Nat → World → Prop} {rest : List Oper} {o : Oper} {a : Act} {k : Nat}
theorem dex_take {v : Value} (hw : Region.wanted o (yielded ops a.tmps) = true) (hv : ∀ w, S w → (execOp a.eval o).run P w = .ok (.value v) w) (hR : ∀ w, R k w) (h : wpDet P ops Q S R (k + 1) rest (a.put o.dst v)) : wpDet P ops Q S R k (o :: rest) a :=
  ⟨v, .inl ⟨hw, fun w hS => .inl ⟨w, .inl (hv w hS), hS, hR w, fun _ _ h => h⟩⟩, h⟩
theorem dex_nil (h : ∀ w, S w → (∀ i, i < ops.size → R i w) → Q .normal a w) : wpDet P ops Q S R k [] a := h
theorem dex_load (ty : TypeId) (n : Nat) (d : TypeDesc) (hu : P.underlying ty = some d) (hd : (match d with | .struct _ | .array _ _ => true | _ => false) = true) (hi : (P.info? ty).map (·.size) = some n)
    (x : Operand) (ho : o.op = .load ty x) (hw : Region.wanted o (yielded ops a.tmps) = true) (b : Nat) (hx : a.eval x = .pointer (some ⟨b, 0, none⟩)) (cs : Array Value) (t : TypeId) (hB : ∀ w, S w → Blk w b cs t) (hn : cs.size = n) (hR : ∀ w, R k w)
    (h : wpDet P ops Q S R (k + 1) rest (a.put o.dst (.agg cs))) : wpDet P ops Q S R k (o :: rest) a := by
  refine dex_take hw (fun w hS => ?_) hR h
  have hr := run_loadVar_row (P := P) w b t ty cs (0, 0) d (hB w hS) hu hd (by rw [hi, hn])
  unfold execOp
  simp only [ho, hx, Instr.loadAt, Instr.sureAddr, Sem.run_bind, Sem.run_pure, Result.andThen_ok, hr]
theorem dex_store (ty : TypeId) (n : Nat) (hi : (P.info? ty).map (·.size) = some n) (x y : Operand) (ho : o.op = .store ty x y) (hw : Region.wanted o (yielded ops a.tmps) = true) (b : Nat) (hx : a.eval x = .pointer (some ⟨b, 0, none⟩)) (cs : Array Value) (hy : a.eval y = .agg cs) (t : TypeId) (hn : cs.size = n)
    (h1 : cs.all (·.oneCell') = true) (hB : ∀ w, S w → ∃ old : Array Value, Blk w b old t ∧ old.size = n) (hG : ∀ w w', S w → Blk w' b cs t → Turned b w w' → Goes S R k w w')
    (h : wpDet P ops Q S R (k + 1) rest (a.put o.dst undef)) : wpDet P ops Q S R k (o :: rest) a := by
  refine ⟨undef, .inl ⟨hw, fun w hS => .inl ?_⟩, h⟩
  obtain ⟨old, hO, ho2⟩ := hB w hS
  refine ⟨w.setRow b cs, .inr ⟨?_, rfl⟩, hG w _ hS (Blk.row hO cs) (turned_row w b cs)⟩
  unfold execOp
  simp only [ho, hx, hy, Instr.storeAt, Instr.sureAddr, Sem.run_bind, Sem.run_pure, Result.andThen_ok, run_storeVar_row w b t ty old cs hO (by rw [hi, hn]) (by rw [ho2, hn]) h1]
end
theorem want_none {o : Oper} {f : Nat → Option Bool} (h : o.guard = none) : Region.wanted o f = true := by simp [Region.wanted, h]
theorem wp_two {P : Program} {Q : Exit → Act → World → Prop} {id : Nat} {a : Act} {W : World} (o0 o1 o2 o3 : Oper) (hm : P.follows .mixedOrders = true) (hb : detB .any [o0, o1, o2, o3].toArray = true) (T1 T2 : TypeId) (n1 n2 : Nat) {d1 d2 : TypeDesc}
    (hu1 : P.underlying T1 = some d1) (hd1 : (match d1 with | .struct _ | .array _ _ => true | _ => false) = true) (hi1 : (P.info? T1).map (·.size) = some n1)
    (hu2 : P.underlying T2 = some d2) (hd2 : (match d2 with | .struct _ | .array _ _ => true | _ => false) = true) (hi2 : (P.info? T2).map (·.size) = some n2)
    (x0 x1 y2 z2 y3 z3 : Operand) (h0 : o0.op = .load T1 x0) (h1 : o1.op = .load T2 x1) (h2 : o2.op = .store T1 y2 z2) (h3 : o3.op = .store T2 y3 z3) (g0 : o0.guard = none) (g1 : o1.guard = none) (g2 : o2.guard = none) (g3 : o3.guard = none)
    (bf bx bo bp : Nat) (csF csX csO csP : Array Value) (tF tX tO tP : TypeId) (BF : Blk W bf csF tF) (BX : Blk W bx csX tX) (BO : Blk W bo csO tO) (BP : Blk W bp csP tP)
    (sF : csF.size = n1) (sX : csX.size = n2) (sO : csO.size = n1) (sP : csP.size = n2) (oF : csF.all (·.oneCell') = true) (oX : csX.all (·.oneCell') = true)
    (nfo : bf ≠ bo) (nfp : bf ≠ bp) (nxo : bx ≠ bo) (nxp : bx ≠ bp) (nop : bo ≠ bp)
    (e0 : a.eval x0 = .pointer (some ⟨bf, 0, none⟩)) (e1 : (a.put o0.dst (.agg csF)).eval x1 = .pointer (some ⟨bx, 0, none⟩))
    (e2 : ((a.put o0.dst (.agg csF)).put o1.dst (.agg csX)).eval y2 = .pointer (some ⟨bo, 0, none⟩)) (e2' : ((a.put o0.dst (.agg csF)).put o1.dst (.agg csX)).eval z2 = .agg csF)
    (e3 : (((a.put o0.dst (.agg csF)).put o1.dst (.agg csX)).put o2.dst undef).eval y3 = .pointer (some ⟨bp, 0, none⟩)) (e3' : (((a.put o0.dst (.agg csF)).put o1.dst (.agg csX)).put o2.dst undef).eval z3 = .agg csX)
    (h : ∀ W', Blk W' bo csF tO → Blk W' bp csX tP → But bo bp W W' → Q .normal ((((a.put o0.dst (.agg csF)).put o1.dst (.agg csX)).put o2.dst undef).put o3.dst undef) W') : (Code.region id [o0, o1, o2, o3].toArray true).wp P Q a W := by
  refine wp_region_dex (S := fun w' => But bo bp W w' ∧ (∃ old : Array Value, Blk w' bo old tO ∧ old.size = n1) ∧ (∃ old : Array Value, Blk w' bp old tP ∧ old.size = n2)) (R := fun j w' => (j = 2 → Blk w' bo csF tO) ∧ (j = 3 → Blk w' bp csX tP)) hm hb ⟨But.of (bq_drew (bq_refl W)), ⟨csO, BO.drew, sO⟩, ⟨csP, BP.drew, sP⟩⟩ ?_
  refine dex_load T1 n1 d1 hu1 hd1 hi1 x0 h0 (want_none g0) bf e0 csF tF (fun w hS => BF.but hS.1 nfo nfp) sF (fun w => ⟨fun h => absurd h (by decide), fun h => absurd h (by decide)⟩) ?_
  refine dex_load T2 n2 d2 hu2 hd2 hi2 x1 h1 (want_none g1) bx e1 csX tX (fun w hS => BX.but hS.1 nxo nxp) sX (fun w => ⟨fun h => absurd h (by decide), fun h => absurd h (by decide)⟩) ?_
  refine dex_store T1 n1 hi1 y2 z2 h2 (want_none g2) bo e2 csF e2' tO sF oF (fun w hS => hS.2.1) (fun w w' hS hB hT => ⟨⟨⟨hT.os.trans hS.1.os, hT.tape.trans hS.1.tape, hT.output.trans hS.1.output, by rw [hT.size]; exact hS.1.size, fun k h1 h2 h3 => (hT.block k h2).trans (hS.1.block k h1 h2 h3)⟩, ⟨csF, hB, sF⟩, hS.2.2.imp fun old h => ⟨hT.blk h.1 (Ne.symm nop), h.2⟩⟩, ⟨fun _ => hB, fun h => absurd h (by decide)⟩, fun i hi hr => ⟨fun h => absurd h hi, fun h => hT.blk (hr.2 h) (Ne.symm nop)⟩⟩) ?_
  refine dex_store T2 n2 hi2 y3 z3 h3 (want_none g3) bp e3 csX e3' tP sX oX (fun w hS => hS.2.2) (fun w w' hS hB hT => ⟨⟨⟨hT.os.trans hS.1.os, hT.tape.trans hS.1.tape, hT.output.trans hS.1.output, by rw [hT.size]; exact hS.1.size, fun k h1 h2 h3 => (hT.block k h3).trans (hS.1.block k h1 h2 h3)⟩, hS.2.1.imp fun old h => ⟨hT.blk h.1 nop, h.2⟩, ⟨csX, hB, sX⟩⟩, ⟨fun h => absurd h (by decide), fun _ => hB⟩, fun i hi hr => ⟨fun h => hT.blk (hr.1 h) nop, fun h => absurd h hi⟩⟩) ?_
  exact dex_nil fun w hS hR => h w ((hR 2 (by simp)).1 rfl) ((hR 3 (by simp)).2 rfl) hS.1
end Go.Proofs.Ythlnjipefeglpaa.Dex
