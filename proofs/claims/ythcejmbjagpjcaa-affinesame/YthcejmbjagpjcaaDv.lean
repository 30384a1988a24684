import Derived.Test.YthcejmbjagpjcaaDn
/- The steps of such a walk. -/
namespace Go.Proofs.Ythcejmbjagpjcaa.Dnw
open Go Go.RowKit
set_option linter.unusedVariables false
section
variable {P : Program} {ops : Array Oper} {Q : Exit → Act → World → Prop} {W : World} {p s k : Nat} {dp : Tmp} {T : TypeId} {cs : Array Value} {rest : List Oper} {o : Oper} {a : Act}
theorem dn_alloc (hk : k = p) (h : wpDet P ops Q W p s dp T cs (k + 1) rest (a.put o.dst undef)) : wpDet P ops Q W p s dp T cs k (o :: rest) a := .inl ⟨hk, h⟩
theorem dn_store (hk : k = s) (y : Operand) (ho : o.op = .store T (.tmp dp) y) (hy : a.eval y = .agg cs) (h : wpDet P ops Q W p s dp T cs (k + 1) rest (a.put o.dst undef)) : wpDet P ops Q W p s dp T cs k (o :: rest) a := .inr (.inl ⟨hk, ⟨y, ho, hy⟩, h⟩)
theorem dn_take {v : Value} (h1 : k ≠ p) (h2 : k ≠ s) (hw : Region.wanted o (yielded ops a.tmps) = true) (hv : ∀ w, Below W.heap.size W w → (execOp a.eval o).run P w = .ok (.value v) w) (h : wpDet P ops Q W p s dp T cs (k + 1) rest (a.put o.dst v)) : wpDet P ops Q W p s dp T cs k (o :: rest) a :=
  .inr (.inr ⟨h1, h2, v, .inl ⟨hw, fun w hS => .inl ⟨w, hv w hS, bq_refl w⟩⟩, h⟩)
theorem dn_skip (h1 : k ≠ p) (h2 : k ≠ s) (hw : Region.wanted o (yielded ops a.tmps) = false) (h : wpDet P ops Q W p s dp T cs (k + 1) rest (a.put o.dst undef)) : wpDet P ops Q W p s dp T cs k (o :: rest) a :=
  .inr (.inr ⟨h1, h2, undef, .inr ⟨hw, rfl⟩, h⟩)
theorem dn_call {f : FuncId} {args : Array Value} {v : Value} (h1 : k ≠ p) (h2 : k ≠ s) (hw : Region.wanted o (yielded ops a.tmps) = true) (hr : ∀ w, Below W.heap.size W w → (execOp a.eval o).run P w = .ok (.enter f args) w)
    (hc : ∀ w, Below W.heap.size W w → Calls P f args w fun e w' => e = .returned v ∧ Below w.heap.size w w') (h : wpDet P ops Q W p s dp T cs (k + 1) rest (a.put o.dst v)) : wpDet P ops Q W p s dp T cs k (o :: rest) a :=
  .inr (.inr ⟨h1, h2, v, .inl ⟨hw, fun w hS => .inr ⟨f, args, w, hr w hS, hc w hS⟩⟩, h⟩)
theorem dn_load (h1 : k ≠ p) (h2 : k ≠ s) (ty : TypeId) (n : Nat) (d : TypeDesc) (hu : P.underlying ty = some d) (hd : (match d with | .struct _ | .array _ _ => true | _ => false) = true) (hi : (P.info? ty).map (·.size) = some n)
    (x : Operand) (ho : o.op = .load ty x) (hw : Region.wanted o (yielded ops a.tmps) = true) (b : Nat) (hx : a.eval x = .pointer (some ⟨b, 0, none⟩)) (cells : Array Value) (t : TypeId) (hB : ∀ w, Below W.heap.size W w → Blk w b cells t) (hn : cells.size = n)
    (h : wpDet P ops Q W p s dp T cs (k + 1) rest (a.put o.dst (.agg cells))) : wpDet P ops Q W p s dp T cs k (o :: rest) a := by
  refine dn_take h1 h2 hw (fun w hS => ?_) h
  have hr := run_loadVar_row (P := P) w b t ty cells (0, 0) d (hB w hS) hu hd (by rw [hi, hn])
  unfold execOp
  simp only [ho, hx, Instr.loadAt, Instr.sureAddr, Sem.run_bind, Sem.run_pure, Result.andThen_ok, hr]
theorem dn_nil (h : ∀ w b, Blk w b cs T → W.heap.size ≤ b → Below W.heap.size W w → Q .normal (a.put (some dp) (.pointer (some ⟨b, 0, none⟩))) w) : wpDet P ops Q W p s dp T cs k [] a := fun w b h1 h2 h3 => h w b h2 h3 h1
end
end Go.Proofs.Ythcejmbjagpjcaa.Dnw
