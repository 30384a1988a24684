import Derived.Test.YtpeknlablcgchaaDt
import Derived.Test.YtpeknlablcgchaaFl
import Derived.Deep.MidRow
/- The steps of such a walk. -/
namespace Go.Proofs.Ytpeknlablcgchaa.Det
open Go Go.RowKit
set_option linter.unusedVariables false
section
variable {P : Program} {ops : Array Oper} {Q : Exit → Act → World → Prop} {S : World → Prop} {rest : List Oper} {o : Oper} {a : Act}
theorem det_take {v : Value} (hw : Region.wanted o (yielded ops a.tmps) = true) (hv : ∀ w, S w → (execOp a.eval o).run P w = .ok (.value v) w) (h : wpDet P ops Q S rest (a.put o.dst v)) : wpDet P ops Q S (o :: rest) a :=
  ⟨v, .inl ⟨hw, fun w hS => .inl ⟨w, hv w hS, hS⟩⟩, h⟩
theorem det_skip (hw : Region.wanted o (yielded ops a.tmps) = false) (h : wpDet P ops Q S rest (a.put o.dst undef)) : wpDet P ops Q S (o :: rest) a :=
  ⟨undef, .inr ⟨hw, rfl⟩, h⟩
theorem det_call {f : FuncId} {args : Array Value} {v : Value} (hw : Region.wanted o (yielded ops a.tmps) = true) (hr : ∀ w, S w → (execOp a.eval o).run P w = .ok (.enter f args) w)
    (hc : ∀ w, S w → Calls P f args w fun e w' => e = .returned v ∧ S w') (h : wpDet P ops Q S rest (a.put o.dst v)) : wpDet P ops Q S (o :: rest) a :=
  ⟨v, .inl ⟨hw, fun w hS => .inr ⟨f, args, w, hr w hS, hc w hS⟩⟩, h⟩
theorem det_field (ty : TypeId) (x : Operand) (i : Nat) (u v : Value) (ho : o.op = .field ty x i) (hw : Region.wanted o (yielded ops a.tmps) = true) (hx : a.eval x = u) (hr : ∀ w, (Instr.field ty u i).run P w = .ok v w) (h : wpDet P ops Q S rest (a.put o.dst v)) : wpDet P ops Q S (o :: rest) a :=
  det_take hw (fun w _ => by unfold execOp; simp only [ho, hx, Sem.run_bind, hr, Result.andThen_ok]; rfl) h
theorem det_nil (h : ∀ w, S w → Q .normal a w) : wpDet P ops Q S [] a := h
/-- a whole struct or array -/
theorem det_load (ty : TypeId) (n : Nat) (d : TypeDesc) (hu : P.underlying ty = some d) (hd : (match d with | .struct _ | .array _ _ => true | _ => false) = true) (hi : (P.info? ty).map (·.size) = some n)
    (x : Operand) (ho : o.op = .load ty x) (hw : Region.wanted o (yielded ops a.tmps) = true) (b : Nat) (hx : a.eval x = .pointer (some ⟨b, 0, none⟩)) (cs : Array Value) (t : TypeId) (hB : ∀ w, S w → Blk w b cs t) (hn : cs.size = n)
    (h : wpDet P ops Q S rest (a.put o.dst (.agg cs))) : wpDet P ops Q S (o :: rest) a := by
  refine det_take hw (fun w hS => ?_) h
  have hr := run_loadVar_row (P := P) w b t ty cs (0, 0) d (hB w hS) hu hd (by rw [hi, hn])
  unfold execOp
  simp only [ho, hx, Instr.loadAt, Instr.sureAddr, Sem.run_bind, Sem.run_pure, Result.andThen_ok, hr]
/-- a struct in the midst of a block -/
theorem det_mid (ty : TypeId) (x : Operand) (ho : o.op = .load ty x) (hw : Region.wanted o (yielded ops a.tmps) = true) (b f : Nat) (hx : a.eval x = .pointer (some ⟨b, f, none⟩)) (cs : List Value) (d : TypeDesc) (hc : ∀ w, S w → w.rangeAt b f cs)
    (hu : P.underlying ty = some d) (hd : d.isRow = true) (hi : (P.info? ty).map (·.size) = some cs.length)
    (h : wpDet P ops Q S rest (a.put o.dst (.agg cs.toArray))) : wpDet P ops Q S (o :: rest) a := by
  refine det_take hw (fun w hS => ?_) h
  unfold execOp
  simp only [ho, hx, Instr.loadAt, Instr.sureAddr, Sem.run_bind, Sem.run_pure, Result.andThen_ok, run_loadVar_mid w b f ty cs d (hc w hS) hu hd hi]
end
end Go.Proofs.Ytpeknlablcgchaa.Det
