import Derived.Test.YthlnjipefeglpaaZU3
import Derived.Test.YthlnjipefeglpaaZU4
import Derived.Laws.Rows
import Derived.Laws.Tables
import Derived.Laws.ResultCell
import Derived.Deep.WholeRow
import Derived.Laws.MakeOwn
import Derived.Great.BuildSlice
namespace Go.Proofs.Ythlnjipefeglpaa
open Go.RowKit
set_option linter.unusedVariables false
namespace F
def len : List (Nat × Nat) → Nat
  | [] => 0
  | p :: fs => p.2 + len fs
def num : List (Nat × Nat) → Nat
  | [] => 0
  | p :: fs => p.1 * B.P2 (len fs) + num fs
def ok (fs : List (Nat × Nat)) : Prop := ∀ p ∈ fs, p.1 < B.P2 p.2
theorem ok_cons {p : Nat × Nat} {fs : List (Nat × Nat)} (h : ok (p :: fs)) : p.1 < B.P2 p.2 ∧ ok fs := ⟨h p (by simp), fun q hq => h q (by simp [hq])⟩
theorem ok_nil : ok [] := fun p hp => by simp at hp
theorem ok_app {a b : List (Nat × Nat)} (ha : ok a) (hb : ok b) : ok (a ++ b) := fun p hp => (List.mem_append.1 hp).elim (ha p) (hb p)
theorem ok_one {v n : Nat} (h : v < B.P2 n) : ok [(v, n)] := fun p hp => by simp at hp; subst hp; exact h
theorem len_app (a b : List (Nat × Nat)) : len (a ++ b) = len a + len b := by
  induction a with
  | nil => simp [len]
  | cons p a ih => simp only [List.cons_append, len, ih]; omega
theorem num_app (a b : List (Nat × Nat)) : num (a ++ b) = num a * B.P2 (len b) + num b := by
  induction a with
  | nil => simp [num]
  | cons p a ih => simp only [List.cons_append, num, ih, len_app, B.P2_add, Nat.add_mul, Nat.mul_assoc, Nat.add_assoc]
theorem num_lt {fs : List (Nat × Nat)} (h : ok fs) : num fs < B.P2 (len fs) := by
  induction fs with
  | nil => simp [num, len, B.P2_zero]
  | cons p fs ih => exact B.join_lt (ok_cons h).1 (ih (ok_cons h).2)
def bys (fs : List (Nat × Nat)) : List UInt8 := B.putL [] 0 (num fs) (len fs)
def fr (fs : List (Nat × Nat)) : Nat := B.putF 0 0 (len fs)
theorem bys_len (fs : List (Nat × Nat)) : (bys fs).length = (len fs + 7) / 8 := by
  unfold bys; rw [B.putL_len]; unfold B.putN; simp
theorem fr_le (fs : List (Nat × Nat)) : fr fs ≤ 7 := B.putF_le _ _ _
theorem fr_eq (fs : List (Nat × Nat)) : 8 * (bys fs).length = len fs + fr fs := by
  have := B.putN_eq 0 0 (len fs)
  unfold bys fr
  rw [B.putL_len]
  simpa using this
theorem snd {fs : List (Nat × Nat)} (h : ok fs) : B.Snd (bys fs) (fr fs) := B.putL_snd [] 0 _ _ (by omega) (num_lt h)
theorem put {fs : List (Nat × Nat)} {v n : Nat} (h : ok fs) (hv : v < B.P2 n) : B.putL (bys fs) (fr fs) v n = bys (fs ++ [(v, n)]) ∧ B.putF (bys fs).length (fr fs) n = fr (fs ++ [(v, n)]) := by
  have e1 : len (fs ++ [(v, n)]) = len fs + n := by rw [len_app]; simp [len]
  have e2 : num (fs ++ [(v, n)]) = num fs * B.P2 n + v := by rw [num_app]; simp [len, num, B.P2_zero]
  constructor
  · unfold bys fr
    rw [e1, e2]
    exact B.putL_comp [] 0 (num fs) (len fs) v n (by omega) (num_lt h) hv
  · unfold fr
    rw [e1]
    unfold bys
    rw [B.putL_len]
    exact B.putF_comp 0 0 (len fs) n (by omega)
def wrV (fs : List (Nat × Nat)) : Value := .agg #[.string (bs (bys fs)), .int .i64 (fr fs : Int)]
theorem nf_bys {fs : List (Nat × Nat)} (h : ok fs) : nf (bs (bys fs)) (fr fs : Int) = fr fs := nf_of_snd _ _ (by rw [bs_data]; exact snd h)
theorem ppR_bys {fs : List (Nat × Nat)} {v n : Nat} (h : ok fs) (hv : v < B.P2 n) : ppR (bs (bys fs)) (fr fs : Int) v n = .tuple #[wrV (fs ++ [(v, n)]), .int .i64 0] := by
  unfold ppR wrV
  rw [nf_bys h, bs_data, bs_size, (put h hv).1, (put h hv).2]
def nums (h : Nat) (l : List Int) : List (Nat × Nat) := (mxW l, h) :: l.map fun v => (sgU v (mxW l), mxW l)
theorem mxW_from (c : Nat) (l : List Int) : l.foldl (fun m v => max m (wd v)) c = max c (mxW l) := by
  unfold mxW
  induction l generalizing c with
  | nil => simp
  | cons v l ih => rw [List.foldl_cons, List.foldl_cons, ih, ih (max 0 (wd v))]; omega
theorem mxW_app (a b : List Int) : mxW (a ++ b) = max (mxW a) (mxW b) := by
  rw [mxW, List.foldl_append, mxW_from]; rfl
theorem mxW_mem {l : List Int} {v : Int} (h : v ∈ l) : wd v ≤ mxW l := by
  obtain ⟨a, b, rfl⟩ := List.append_of_mem h
  rw [show a ++ v :: b = a ++ [v] ++ b by simp, mxW_app, mxW_snoc]
  omega
theorem mxW_cons (v : Int) (l : List Int) : mxW (v :: l) = max (wd v) (mxW l) := by
  rw [show v :: l = [v] ++ l from rfl, mxW_app]
  simp [mxW]
theorem mxW_le {l : List Int} {n : Nat} (h : ∀ v ∈ l, wd v ≤ n) : mxW l ≤ n := by
  induction l with
  | nil => simp [mxW]
  | cons v l ih =>
    rw [mxW_cons]
    have h1 := ih fun u hu => h u (by simp [hu])
    have h2 := h v (by simp)
    omega
theorem len_map (l : List Int) (f : Int → Nat) (n : Nat) : len (l.map fun v => (f v, n)) = l.length * n := by
  induction l with
  | nil => simp [len]
  | cons v l ih => simp only [List.map_cons, len, ih, List.length_cons, Nat.add_mul, Nat.one_mul]; omega
theorem nums_len (h : Nat) (l : List Int) : len (nums h l) = h + l.length * mxW l := by
  unfold nums; rw [len, len_map]
theorem nums_ok {h : Nat} {l : List Int} (h1 : mxW l < B.P2 h) (h2 : mxW l ≤ 31) (hb : ∀ v ∈ l, -9223372036854775808 ≤ v ∧ v ≤ 9223372036854775807) : ok (nums h l) := by
  intro p hp
  unfold nums at hp
  rcases List.mem_cons.1 hp with rfl | hp
  · exact h1
  · obtain ⟨v, hv, rfl⟩ := List.mem_map.1 hp
    exact (sgU_lt v (mxW l) (hb v hv).1 (hb v hv).2 h2 (mxW_mem hv)).1
theorem nums_take (h : Nat) (l : List Int) (k : Nat) (hk : k < l.length) : (nums h l).take (k + 2) = (nums h l).take (k + 1) ++ [(sgU l[k] (mxW l), mxW l)] := by
  unfold nums
  rw [List.take_succ_cons, List.take_succ_cons, List.take_succ_eq_append_getElem (by simpa using hk), List.getElem_map]
  simp
theorem nums_all (h : Nat) (l : List Int) : (nums h l).take (l.length + 1) = nums h l := by
  rw [List.take_of_length_le]; simp [nums]
theorem ok_take {fs : List (Nat × Nat)} (h : ok fs) (k : Nat) : ok (fs.take k) := fun p hp => h p (List.mem_of_mem_take hp)
theorem bit_len (b : Nat) : len [(b, 1)] = 1 := rfl
end F
structure RS where
  s : ByteArray
  a : Int
  e : Int
namespace RS
def pl (x : RS) (n : Int) : Int := if x.e = 0 then plV x.s x.a n else 0
def sg (x : RS) (n : Int) : Int := if x.e = 0 then sgV x.s x.a n else 0
def go (x : RS) (n : Int) : RS := if x.e = 0 then ⟨plS x.s x.a n, plA x.s x.a n, plE x.s.size x.a n⟩ else x
def on (x : RS) (n : Int) : Nat → RS
  | 0 => x
  | k + 1 => (on x n k).go n
def l (x : RS) (n : Int) : Nat → List Int
  | 0 => []
  | k + 1 => l x n k ++ [(on x n k).sg n]
def cells (x : RS) : Array Value := #[.string x.s, .int .i64 x.a, .int .i64 x.e]
theorem l_len (x : RS) (n : Int) (k : Nat) : (x.l n k).length = k := by
  induction k with
  | zero => rfl
  | succ k ih => simp [l, ih]
theorem on_succ (x : RS) (n : Int) (k : Nat) : x.on n (k + 1) = (x.go n).on n k := by
  induction k with
  | zero => rfl
  | succ k ih => rw [on, ih]; rfl
theorem l_succ (x : RS) (n : Int) (k : Nat) : x.l n (k + 1) = x.sg n :: (x.go n).l n k := by
  induction k with
  | zero => rfl
  | succ k ih => rw [l, ih, l, on_succ]; rfl
theorem go_size (x : RS) (n : Int) {m : Nat} (h : x.s.size ≤ m) : (x.go n).s.size ≤ m := by
  unfold go
  split
  · show (plS x.s x.a n).size ≤ m
    unfold plS
    split
    · exact h
    · exact Nat.zero_le _
  · exact h
theorem on_size (x : RS) (n : Int) (k : Nat) {m : Nat} (h : x.s.size ≤ m) : (x.on n k).s.size ≤ m := by
  induction k with
  | zero => exact h
  | succ k ih => exact go_size _ _ ih
theorem plV_bd (s : ByteArray) (a n : Int) : 0 ≤ plV s a n ∧ plV s a n ≤ 2147483647 ∧ (0 ≤ n → plV s a n < B.P2 n.toNat) := by
  unfold plV
  split
  · rename_i h
    have hn : 0 ≤ n ∧ n ≤ 31 := by
      unfold plE at h
      split at h
      · omega
      · cases h
    have h1 := B.fld_lt s.data.toList a.toNat n.toNat
    have h2 : B.P2 n.toNat ≤ 2147483648 := B.P2_le (b := 31) (by omega)
    omega
  · have := B.P2_pos n.toNat
    omega
theorem sgV_bd (s : ByteArray) (a n : Int) : -2147483648 ≤ sgV s a n ∧ sgV s a n ≤ 2147483647 := by
  have hp := plV_bd s a n
  unfold sgV
  split
  · rename_i h
    have hn : plE s.size a n = 0 := by
      apply Decidable.byContradiction
      intro hh
      have : plV s a n = 0 := if_neg hh
      have := B.P2_pos n.toNat
      omega
    have hn2 : n ≤ 31 := by
      unfold plE at hn
      split at hn
      · omega
      · cases hn
    have h2 : B.P2 n.toNat ≤ 2147483648 := B.P2_le (b := 31) (by omega)
    omega
  · omega
theorem pl_bd (x : RS) (n : Int) : 0 ≤ x.pl n ∧ x.pl n ≤ 2147483647 ∧ (0 ≤ n → x.pl n < B.P2 n.toNat) := by
  unfold pl
  split
  · exact plV_bd _ _ _
  · have := B.P2_pos n.toNat
    omega
theorem sg_bd (x : RS) (n : Int) : -2147483648 ≤ x.sg n ∧ x.sg n ≤ 2147483647 := by
  unfold sg
  split
  · exact sgV_bd _ _ _
  · omega
def fin (x : RS) (b : Bool) : RS := if x.e = 0 then (if b = true then ⟨x.s, alA x.s.size x.a, 0⟩ else ⟨⟨#[]⟩, 0, 3⟩) else ⟨⟨#[]⟩, 0, x.e⟩
def begP (s : ByteArray) (a : Int) : RS := ⟨s, alA s.size a, 0⟩
def begR (s : ByteArray) (a : Int) : RS := if 0 ≤ a ∧ a ≤ 8 * s.size then ⟨s, alA s.size a, 0⟩ else ⟨⟨#[]⟩, 0, 1⟩
end RS
end Go.Proofs.Ythlnjipefeglpaa
namespace Go.Proofs.Ythlnjipefeglpaa
open Go.RowKit
set_option linter.unusedVariables false
def Blk (w : World) (b : Nat) (cs : Array Value) (t : TypeId) : Prop := w.heap[b]? = some (.cells cs t (0, 0))
section
variable {w w' : World} {b : Nat} {cs : Array Value} {t : TypeId}
theorem Blk.lt (h : Blk w b cs t) : b < w.heap.size := (Array.getElem?_eq_some_iff.1 h).1
theorem Blk.cell (h : Blk w b cs t) (i : Nat) : w.cell? ⟨b, i, none⟩ = cs[i]? := cell_of_row w b i cs t (0, 0) h
theorem Blk.frozen (h : Blk w b cs t) (i : Nat) : w.frozen? ⟨b, i, none⟩ = false := frozen_of_row w b i cs t h
theorem Blk.keep (h : Blk w b cs t) (hb : Below w.heap.size w w') : Blk w' b cs t := by unfold Blk; rw [hb.block b h.lt]; exact h
theorem blk_new (w : World) (cs : Array Value) (t : TypeId) : Blk (w.alloc (.cells cs t)) w.heap.size cs t := heap_alloc_new w _
theorem Blk.drew (h : Blk w b cs t) : Blk w.drew b cs t := h
theorem Blk.set (h : Blk w b cs t) (i : Nat) (v : Value) : Blk (w.setCell ⟨b, i, none⟩ v) b (cs.setIfInBounds i v) t := heap_setCell_same w b i cs t v h
theorem Blk.other (h : Blk w b cs t) {a : Addr} (v : Value) (ha : b ≠ a.block) : Blk (w.setCell a v) b cs t := by unfold Blk; rw [heap_setCell_other w a b v ha]; exact h
theorem Blk.row (h : Blk w b cs t) (cs' : Array Value) : Blk (w.setRow b cs') b cs' t := setRow_heap w b cs cs' t (0, 0) h
end
structure Turned (g : Nat) (w w' : World) : Prop where
  os : w'.os = w.os
  tape : w'.tape = w.tape
  output : w'.output = w.output
  size : w'.heap.size = w.heap.size
  block : ∀ k, k ≠ g → w'.heap[k]? = w.heap[k]?
section
variable {w w' : World} {b g : Nat} {cs : Array Value} {t : TypeId}
theorem Turned.blk (h : Turned g w w') (hB : Blk w b cs t) (hn : b ≠ g) : Blk w' b cs t := by unfold Blk; rw [h.block b hn]; exact hB
theorem Turned.below {a : World} (h : Turned g w w') (hb : Below a.heap.size a w) (hg : a.heap.size ≤ g) : Below a.heap.size a w' :=
  hb.trans ⟨h.os, h.tape, h.output, Nat.le_of_eq h.size.symm, fun k hk => h.block k (by omega)⟩
theorem Turned.cell (h : Turned g w w') {p : Addr} (hp : p.block ≠ g) : w'.cell? p = w.cell? p := World.cell?_of_block (w := w) (h.block p.block hp)
theorem turned_row (w : World) (g : Nat) (cs : Array Value) : Turned g w (w.setRow g cs) := ⟨rfl, rfl, rfl, by simp, fun k hk => setRow_other w g k cs hk⟩
theorem turned_set (w : World) (a : Addr) (v : Value) : Turned a.block w (w.setCell a v) := ⟨rfl, rfl, rfl, by simp [World.setCell], fun k hk => heap_setCell_other w a k v hk⟩
end
section
variable {P : Program} {ops : Array Oper} {rest : List Oper} {o : Oper} {a : Act} {w : World} {Q : Exit → Act → World → Prop}
theorem wl_alloc (ty : TypeId) (z : Array Value) (hz : ∀ w, (zeroValue ty).run P w = .ok (.agg z) w) (ho : o.op = .alloc ty) (hgd : o.guard = none)
    (h : ∀ W b, Blk W b z ty → w.heap.size ≤ b → Below w.heap.size w W → wpList P ops Q rest (a.put o.dst (.pointer (some ⟨b, 0, none⟩))) W) : wpList P ops Q (o :: rest) a w := by
  refine wpList_plain hgd fun K hK => ?_
  have := h (w.alloc (.cells z ty)) w.heap.size (blk_new w z ty) (Nat.le_refl _) (bq_alloc (bq_refl w) _)
  unfold Oper.wp execOp
  simp only [ho, Instr.alloc, Sem.run_bind, hz, Result.andThen_ok, newVar, newRow, Value.cells]
  exact hK _ _ this
theorem wl_box (ty : TypeId) (x : Operand) (cs : Array Value) (ho : o.op = .box ty x) (hgd : o.guard = none) (hx : a.eval x = .agg cs)
    (h : ∀ W b, Blk W b cs ty → w.heap.size ≤ b → Below w.heap.size w W → wpList P ops Q rest (a.put o.dst (.pointer (some ⟨b, 0, none⟩))) W) : wpList P ops Q (o :: rest) a w := by
  refine wpList_plain hgd fun K hK => ?_
  have := h (w.alloc (.cells cs ty)) w.heap.size (blk_new w cs ty) (Nat.le_refl _) (bq_alloc (bq_refl w) _)
  unfold Oper.wp execOp
  simp only [ho, hx, Instr.box, Sem.run_bind, newVar, newRow, Value.cells]
  exact hK _ _ this
theorem wl_load (ty : TypeId) (n : Nat) (d : TypeDesc) (hu : P.underlying ty = some d) (hd : (match d with | .struct _ | .array _ _ => true | _ => false) = true) (hi : (P.info? ty).map (·.size) = some n)
    (x : Operand) (ho : o.op = .load ty x) (hgd : o.guard = none) (b : Nat) (hx : a.eval x = .pointer (some ⟨b, 0, none⟩)) (cs : Array Value) (t : TypeId) (hB : Blk w b cs t) (hn : cs.size = n)
    (h : wpList P ops Q rest (a.put o.dst (.agg cs)) w) : wpList P ops Q (o :: rest) a w :=
  wpList_load_row hgd ty x ho b hx t cs (0, 0) d hB hu hd (by rw [hi, hn]) h
theorem wlg_build (ty : TypeId) (ps : List (Nat × Value)) (cs : Array Value) (hb : P.built ty ps = some cs) (parts : Array (Nat × Operand)) (ho : o.op = .build ty parts) (hw : Region.wanted o (yielded ops a.tmps) = true)
    (hps : (parts.toList.map fun (i, x) => (i, a.eval x)) = ps)
    (h : wpList P ops Q rest (a.put o.dst (.agg cs)) w) : wpList P ops Q (o :: rest) a w := by
  refine wpList_step fun K hK => ?_
  rw [if_pos hw]
  rw [← hps, ← Array.toList_map] at hb
  exact wp_build ty parts ho (by rw [hb]; rfl) (by rw [hb]; exact hK _ _ h)
theorem wl_store (ty : TypeId) (n : Nat) (hi : (P.info? ty).map (·.size) = some n)
    (x y : Operand) (ho : o.op = .store ty x y) (hgd : o.guard = none) (b : Nat) (hx : a.eval x = .pointer (some ⟨b, 0, none⟩)) (cs : Array Value) (hy : a.eval y = .agg cs) (old : Array Value) (t : TypeId) (hB : Blk w b old t) (hn : old.size = n) (hn2 : cs.size = n)
    (h1 : cs.all (·.oneCell') = true)
    (h : ∀ W, Blk W b cs t → Turned b w W → wpList P ops Q rest (a.put o.dst undef) W) : wpList P ops Q (o :: rest) a w :=
  wpList_store_row hgd ty x y ho b cs hx hy t old hB (by rw [hi, hn2]) (by rw [hn, hn2]) h1 (h _ (Blk.row hB cs) (turned_row w b cs))
end
theorem post_cell_tmp {P : Program} {fn : Func} {p u : Tmp} {ty : TypeId} {a : Act} {W : World} {R : Ending → World → Prop} {n : Nat} {d : TypeDesc}
    (hu : P.underlying ty = some d) (hd : (match d with | .struct _ | .array _ _ => true | _ => false) = true) (hi : (P.info? ty).map (·.size) = some n)
    (hres : fn.results = #[.cell p ty, .tmp u]) {b : Nat} {cs : Array Value} {t : TypeId} (hB : Blk W b cs t) (hn : cs.size = n)
    (hp : a.tmps.getD p undef = .pointer (some ⟨b, 0, none⟩)) {v : Value} (hv : a.tmps.getD u undef = v) (hdf : a.defers = []) (hR : R (.returned (.tuple #[.agg cs, v])) W) : bodyPost P fn R .ret a W := by
  refine bodyPost_ret (v := .tuple #[.agg cs, v]) ?_ hdf hR
  rw [results_cell_tmp hres, hp, hv]
  simp [asAddr, run_loadVar_row W b t ty cs (0, 0) d hB hu hd (by rw [hi, hn])]
theorem post_cell {P : Program} {fn : Func} {p : Tmp} {ty : TypeId} {a : Act} {W : World} {R : Ending → World → Prop} {n : Nat} {d : TypeDesc}
    (hu : P.underlying ty = some d) (hd : (match d with | .struct _ | .array _ _ => true | _ => false) = true) (hi : (P.info? ty).map (·.size) = some n)
    (hres : fn.results = #[.cell p ty]) {b : Nat} {cs : Array Value} {t : TypeId} (hB : Blk W b cs t) (hn : cs.size = n)
    (hp : a.tmps.getD p undef = .pointer (some ⟨b, 0, none⟩)) (hdf : a.defers = []) (hR : R (.returned (.agg cs)) W) : bodyPost P fn R .ret a W :=
  bodyPost_ret (v := .agg cs) (results_cell_row hres a.tmps W b t cs (0, 0) d hp hB hu hd (by rw [hi, hn])) hdf hR
def Ints (w : World) (zs : List Int) (a : Option Addr) (b o : Nat) : Prop :=
  (zs.length = 0 ∨ a = some ⟨b, o, none⟩) ∧ (∀ i (h : i < zs.length), -9223372036854775808 ≤ zs[i] ∧ zs[i] ≤ 9223372036854775807) ∧ ∀ i (h : i < zs.length), w.cell? ⟨b, o + i, none⟩ = some (.int .i64 zs[i])
theorem Ints.lt {w : World} {zs : List Int} {a : Option Addr} {b o : Nat} (h : Ints w zs a b o) (h0 : 0 < zs.length) : b < w.heap.size := block_lt_of_cell (h.2.2 0 h0)
theorem Ints.keep {w w' : World} {zs : List Int} {a : Option Addr} {b o : Nat} (h : Ints w zs a b o) (hb : Below w.heap.size w w') : Ints w' zs a b o :=
  ⟨h.1, h.2.1, fun i hi => by rw [hb.cell (p := ⟨b, o + i, none⟩) (h.lt (by omega))]; exact h.2.2 i hi⟩
theorem Ints.at {w w' : World} {zs : List Int} {a : Option Addr} {b o : Nat} (h : Ints w zs a b o) (hb : Below w.heap.size w w') (i : Nat) (hi : i < zs.length) : a = some ⟨b, o, none⟩ ∧ -9223372036854775808 ≤ zs[i] ∧ zs[i] ≤ 9223372036854775807 ∧ w'.cell? ⟨b, o + i, none⟩ = some (.int .i64 zs[i]) :=
  ⟨h.1.resolve_left (by omega), (h.2.1 i hi).1, (h.2.1 i hi).2, (h.keep hb).2.2 i hi⟩
def iA (zs : List Int) : Array Value := (zs.map (Value.int .i64 ·)).toArray
theorem iA_at (zs : List Int) (i : Nat) (h : i < zs.length) : (iA zs)[i]? = some (.int .i64 zs[i]) := by simp [iA, h]
theorem Blk.ints {w : World} {b : Nat} {zs : List Int} {t : TypeId} (h : Blk w b (iA zs) t) (hb : ∀ v ∈ zs, -9223372036854775808 ≤ v ∧ v ≤ 9223372036854775807) : Ints w zs (some ⟨b, 0, none⟩) b 0 :=
  ⟨Or.inr rfl, fun i hi => hb _ (List.getElem_mem hi), fun i hi => by rw [Nat.zero_add, h.cell i, iA_at zs i hi]⟩
section
variable {ops : Array Oper} {rest : List Oper} {o : Oper} {a : Act} {w : World} {Q : Exit → Act → World → Prop}
theorem int_info : (Try.prog.info? 3).map (fun i => (i.zero, i.size, i.bytes)) = some (some (.int .i64 0), 1, 8) := by kernel_rfl
theorem wlg_slice {P : Program} (t e : TypeId) (len : Nat) (cs : Array Value) (ps : List (Nat × Value)) (hr : ∀ w : World, (Instr.buildSlice t len ps.toArray).run P w = .ok (.slice (some ⟨w.heap.size, 0, none⟩) len len) (w.alloc (.cells cs e)))
    (parts : Array (Nat × Operand)) (ho : o.op = .buildSlice t len parts) (hw : Region.wanted o (yielded ops a.tmps) = true) (hps : (parts.toList.map fun (i, x) => (i, a.eval x)) = ps)
    (h : ∀ W b, Blk W b cs e → w.heap.size ≤ b → Below w.heap.size w W → wpList P ops Q rest (a.put o.dst (.slice (some ⟨b, 0, none⟩) len len)) W) : wpList P ops Q (o :: rest) a w := by
  refine wpList_step fun K hK => ?_
  rw [if_pos hw]
  have := h (w.alloc (.cells cs e)) w.heap.size (blk_new w cs e) (Nat.le_refl _) (bq_alloc (bq_refl w) _)
  have e1 : (parts.map fun (i, x) => (i, a.eval x)) = ps.toArray := by rw [← hps, ← Array.toList_map, Array.toArray_toList]
  unfold Oper.wp execOp
  simp only [ho, Sem.run_bind, e1, hr w, Result.andThen_ok]
  exact hK _ _ this
theorem ints4_run (x y z u : Int) (w : World) : (Instr.buildSlice 90 4 [(0, .int .i64 x), (1, .int .i64 y), (2, .int .i64 z), (3, .int .i64 u)].toArray).run Try.prog w = .ok (.slice (some ⟨w.heap.size, 0, none⟩) 4 4) (w.alloc (.cells (iA [x, y, z, u]) 3)) := by
  obtain ⟨ie, h1, h2⟩ := Option.map_eq_some_iff.1 int_info
  have hz : ie.zero = some (.int .i64 0) := congrArg (·.1) h2
  have hs : ie.size = 1 := congrArg (·.2.1) h2
  refine run_buildSlice w 90 3 4 _ _ ie (.int .i64 0) Try.underlying90 h1 hz (by rw [hs]; decide) (by rw [hs]; decide) ?_
  rw [hs]; kernel_rfl
theorem ints2_run (x y : Int) (w : World) : (Instr.buildSlice 90 2 [(0, .int .i64 x), (1, .int .i64 y)].toArray).run Try.prog w = .ok (.slice (some ⟨w.heap.size, 0, none⟩) 2 2) (w.alloc (.cells (iA [x, y]) 3)) := by
  obtain ⟨ie, h1, h2⟩ := Option.map_eq_some_iff.1 int_info
  have hz : ie.zero = some (.int .i64 0) := congrArg (·.1) h2
  have hs : ie.size = 1 := congrArg (·.2.1) h2
  refine run_buildSlice w 90 3 2 _ _ ie (.int .i64 0) Try.underlying90 h1 hz (by rw [hs]; decide) (by rw [hs]; decide) ?_
  rw [hs]; kernel_rfl
end
theorem post_cell2_tmp {P : Program} {fn : Func} {p q u : Tmp} {ty ty' : TypeId} {a : Act} {W : World} {R : Ending → World → Prop} {n n' : Nat} {d d' : TypeDesc}
    (hu : P.underlying ty = some d) (hd : (match d with | .struct _ | .array _ _ => true | _ => false) = true) (hi : (P.info? ty).map (·.size) = some n)
    (hu' : P.underlying ty' = some d') (hd' : (match d' with | .struct _ | .array _ _ => true | _ => false) = true) (hi' : (P.info? ty').map (·.size) = some n')
    (hres : fn.results = #[.cell p ty, .cell q ty', .tmp u]) {b b' : Nat} {cs cs' : Array Value} {t t' : TypeId} (hB : Blk W b cs t) (hn : cs.size = n) (hB' : Blk W b' cs' t') (hn' : cs'.size = n')
    (hp : a.tmps[p]?.getD undef = .pointer (some ⟨b, 0, none⟩)) (hq : a.tmps[q]?.getD undef = .pointer (some ⟨b', 0, none⟩)) {v : Value} (hv : a.tmps[u]?.getD undef = v) (hdf : a.defers = []) (hR : R (.returned (.tuple #[.agg cs, .agg cs', v])) W) : bodyPost P fn R .ret a W := by
  refine bodyPost_ret (v := .tuple #[.agg cs, .agg cs', v]) ?_ hdf hR
  simp only [results, hres]
  simp [Sem.run_bind, Result.andThen, hp, hq, hv, asAddr, run_loadVar_row W b t ty cs (0, 0) d hB hu hd (by rw [hi, hn]), run_loadVar_row W b' t' ty' cs' (0, 0) d' hB' hu' hd' (by rw [hi', hn'])]
end Go.Proofs.Ythlnjipefeglpaa
