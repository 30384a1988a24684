import Derived.Test.YtfaipbdkkkhacaaYA
import Derived.Test.YtfaipbdkkkhacaaYB
import Derived.Laws.Rows
import Derived.Laws.Tables
import Derived.Laws.ResultCell
import Derived.Deep.WholeRow
import Derived.Laws.MakeOwn
import Derived.Great.BuildSlice
import Derived.Deep.MidRow
import Derived.Laws.AppendOwn
import Derived.OwnWalk
import Derived.Deep.OwnRows
import Derived.KernelRfl
import Derived.ChangeKeysEq
import Derived.Deep.RegionHeld3
import Derived.BigRegion
/- Plain facts: fields of bits, one behind the other; what is read where they stand. -/
namespace Go.Proofs.Ytfaipbdkkkhacaa
open Go.RowKit
set_option linter.unusedVariables false
namespace F

/-- how many bits, and their number -/
def len : List (Nat × Nat) → Nat
  | [] => 0
  | p :: fs => p.2 + len fs
def num : List (Nat × Nat) → Nat
  | [] => 0
  | p :: fs => p.1 * B.P2 (len fs) + num fs
def ok (fs : List (Nat × Nat)) : Prop := ∀ p ∈ fs, p.1 < B.P2 p.2
theorem ok_cons {p : Nat × Nat} {fs : List (Nat × Nat)} (h : ok (p :: fs)) : p.1 < B.P2 p.2 ∧ ok fs := ⟨h p (by simp), fun q hq => h q (by simp [hq])⟩
theorem ok_nil : ok [] := fun p hp => by simp at hp
theorem ok_app {a b : List (Nat × Nat)} (ha : ok a) (hb : ok b) : ok (a ++ b) := fun p hp => (List.mem_append.1 hp).elim (ha p) (hb p)
theorem ok_one {v n : Nat} (h : v < B.P2 n) : ok [(v, n)] := fun p hp => by simp at hp; subst hp; exact h
theorem ok_mk {p : Nat × Nat} {fs : List (Nat × Nat)} (h : p.1 < B.P2 p.2) (k : ok fs) : ok (p :: fs) := fun q hq => by
  rcases List.mem_cons.1 hq with rfl | hq
  · exact h
  · exact k q hq
theorem len_app (a b : List (Nat × Nat)) : len (a ++ b) = len a + len b := by
  induction a with
  | nil => simp [len]
  | cons p a ih => simp only [List.cons_append, len, ih]; omega
theorem num_app (a b : List (Nat × Nat)) : num (a ++ b) = num a * B.P2 (len b) + num b := by
  induction a with
  | nil => simp [num]
  | cons p a ih => simp only [List.cons_append, num, ih, len_app, B.P2_add, Nat.add_mul, Nat.mul_assoc, Nat.add_assoc]
theorem num_lt {fs : List (Nat × Nat)} (h : ok fs) : num fs < B.P2 (len fs) := by
  induction fs with
  | nil => simp [num, len, B.P2_zero]
  | cons p fs ih => exact B.join_lt (ok_cons h).1 (ih (ok_cons h).2)
/-- as bytes, and how many bits of the last one are free -/
def bys (fs : List (Nat × Nat)) : List UInt8 := B.putL [] 0 (num fs) (len fs)
def fr (fs : List (Nat × Nat)) : Nat := B.putF 0 0 (len fs)
theorem bys_len (fs : List (Nat × Nat)) : (bys fs).length = (len fs + 7) / 8 := by
  unfold bys; rw [B.putL_len]; unfold B.putN; simp
theorem bys_nil : bys [] = [] := rfl
theorem fr_le (fs : List (Nat × Nat)) : fr fs ≤ 7 := B.putF_le _ _ _
theorem fr_eq (fs : List (Nat × Nat)) : 8 * (bys fs).length = len fs + fr fs := by
  have := B.putN_eq 0 0 (len fs)
  unfold bys fr
  rw [B.putL_len]
  simpa using this
theorem snd {fs : List (Nat × Nat)} (h : ok fs) : B.Snd (bys fs) (fr fs) := B.putL_snd [] 0 _ _ (by omega) (num_lt h)
theorem put {fs : List (Nat × Nat)} {v n : Nat} (h : ok fs) (hv : v < B.P2 n) : B.putL (bys fs) (fr fs) v n = bys (fs ++ [(v, n)]) ∧ B.putF (bys fs).length (fr fs) n = fr (fs ++ [(v, n)]) := by
  have e1 : len (fs ++ [(v, n)]) = len fs + n := by rw [len_app]; simp [len]
  have e2 : num (fs ++ [(v, n)]) = num fs * B.P2 n + v := by rw [num_app]; simp [len, num, B.P2_zero]
  constructor
  · unfold bys fr
    rw [e1, e2]
    exact B.putL_comp [] 0 (num fs) (len fs) v n (by omega) (num_lt h) hv
  · unfold fr
    rw [e1]
    unfold bys
    rw [B.putL_len]
    exact B.putF_comp 0 0 (len fs) n (by omega)
/-- a writer that holds them -/
def wrV (fs : List (Nat × Nat)) : Value := .agg #[.string (bs (bys fs)), .int .i64 (fr fs : Int)]
theorem wrV_nil : wrV [] = .agg #[.string ⟨#[]⟩, .int .i64 0] := rfl
theorem nf_bys {fs : List (Nat × Nat)} (h : ok fs) : nf (bs (bys fs)) (fr fs : Int) = fr fs := nf_of_snd _ _ (by rw [bs_data]; exact snd h)
theorem ppR_bys {fs : List (Nat × Nat)} {v n : Nat} (h : ok fs) (hv : v < B.P2 n) : ppR (bs (bys fs)) (fr fs : Int) v n = .tuple #[wrV (fs ++ [(v, n)]), .int .i64 0] := by
  unfold ppR wrV
  rw [nf_bys h, bs_data, bs_size, (put h hv).1, (put h hv).2]
/-- numbers, behind their width -/
def nums (h : Nat) (l : List Int) : List (Nat × Nat) := (mxW l, h) :: l.map fun v => (sgU v (mxW l), mxW l)
theorem mxW_from (c : Nat) (l : List Int) : l.foldl (fun m v => max m (wd v)) c = max c (mxW l) := by
  unfold mxW
  induction l generalizing c with
  | nil => simp
  | cons v l ih => rw [List.foldl_cons, List.foldl_cons, ih, ih (max 0 (wd v))]; omega
theorem mxW_app (a b : List Int) : mxW (a ++ b) = max (mxW a) (mxW b) := by
  rw [mxW, List.foldl_append, mxW_from]; rfl
theorem mxW_mem {l : List Int} {v : Int} (h : v ∈ l) : wd v ≤ mxW l := by
  obtain ⟨a, b, rfl⟩ := List.append_of_mem h
  rw [show a ++ v :: b = a ++ [v] ++ b by simp, mxW_app, mxW_snoc]
  omega
theorem mxW_cons (v : Int) (l : List Int) : mxW (v :: l) = max (wd v) (mxW l) := by
  rw [show v :: l = [v] ++ l from rfl, mxW_app]
  simp [mxW]
theorem mxW_le {l : List Int} {n : Nat} (h : ∀ v ∈ l, wd v ≤ n) : mxW l ≤ n := by
  induction l with
  | nil => simp [mxW]
  | cons v l ih =>
    rw [mxW_cons]
    have h1 := ih fun u hu => h u (by simp [hu])
    have h2 := h v (by simp)
    omega
theorem len_map (l : List Int) (f : Int → Nat) (n : Nat) : len (l.map fun v => (f v, n)) = l.length * n := by
  induction l with
  | nil => simp [len]
  | cons v l ih => simp only [List.map_cons, len, ih, List.length_cons, Nat.add_mul, Nat.one_mul]; omega
theorem nums_len (h : Nat) (l : List Int) : len (nums h l) = h + l.length * mxW l := by
  unfold nums; rw [len, len_map]
theorem nums_ok {h : Nat} {l : List Int} (h1 : mxW l < B.P2 h) (h2 : mxW l ≤ 31) (hb : ∀ v ∈ l, -9223372036854775808 ≤ v ∧ v ≤ 9223372036854775807) : ok (nums h l) := by
  intro p hp
  unfold nums at hp
  rcases List.mem_cons.1 hp with rfl | hp
  · exact h1
  · obtain ⟨v, hv, rfl⟩ := List.mem_map.1 hp
    exact (sgU_lt v (mxW l) (hb v hv).1 (hb v hv).2 h2 (mxW_mem hv)).1
theorem nums_take (h : Nat) (l : List Int) (k : Nat) (hk : k < l.length) : (nums h l).take (k + 2) = (nums h l).take (k + 1) ++ [(sgU l[k] (mxW l), mxW l)] := by
  unfold nums
  rw [List.take_succ_cons, List.take_succ_cons, List.take_succ_eq_append_getElem (by simpa using hk), List.getElem_map]
  simp
theorem nums_all (h : Nat) (l : List Int) : (nums h l).take (l.length + 1) = nums h l := by
  rw [List.take_of_length_le]; simp [nums]
theorem ok_take {fs : List (Nat × Nat)} (h : ok fs) (k : Nat) : ok (fs.take k) := fun p hp => h p (List.mem_of_mem_take hp)
theorem bit_len (b : Nat) : len [(b, 1)] = 1 := rfl
end F

/-- a reader, and an error's number -/
structure RS where
  s : ByteArray
  a : Int
  e : Int
namespace RS
/-- the next number, without a sign and with one, and what is left -/
def pl (x : RS) (n : Int) : Int := if x.e = 0 then plV x.s x.a n else 0
def sg (x : RS) (n : Int) : Int := if x.e = 0 then sgV x.s x.a n else 0
def go (x : RS) (n : Int) : RS := if x.e = 0 then ⟨plS x.s x.a n, plA x.s x.a n, plE x.s.size x.a n⟩ else x
/-- so many numbers -/
def on (x : RS) (n : Int) : Nat → RS
  | 0 => x
  | k + 1 => (on x n k).go n
def l (x : RS) (n : Int) : Nat → List Int
  | 0 => []
  | k + 1 => l x n k ++ [(on x n k).sg n]
def cells (x : RS) : Array Value := #[.string x.s, .int .i64 x.a, .int .i64 x.e]
theorem l_len (x : RS) (n : Int) (k : Nat) : (x.l n k).length = k := by
  induction k with
  | zero => rfl
  | succ k ih => simp [l, ih]
theorem on_succ (x : RS) (n : Int) (k : Nat) : x.on n (k + 1) = (x.go n).on n k := by
  induction k with
  | zero => rfl
  | succ k ih => rw [on, ih]; rfl
theorem l_succ (x : RS) (n : Int) (k : Nat) : x.l n (k + 1) = x.sg n :: (x.go n).l n k := by
  induction k with
  | zero => rfl
  | succ k ih => rw [l, ih, l, on_succ]; rfl
theorem on_add (x : RS) (n : Int) (j k : Nat) : x.on n (j + k) = (x.on n j).on n k := by
  induction k with
  | zero => rfl
  | succ k ih => rw [← Nat.add_assoc, on, ih]; rfl
theorem l_add (x : RS) (n : Int) (j k : Nat) : x.l n (j + k) = x.l n j ++ (x.on n j).l n k := by
  induction k with
  | zero => simp [l]
  | succ k ih => rw [← Nat.add_assoc, l, ih, l, on_add, List.append_assoc]
theorem go_size (x : RS) (n : Int) {m : Nat} (h : x.s.size ≤ m) : (x.go n).s.size ≤ m := by
  unfold go
  split
  · show (plS x.s x.a n).size ≤ m
    unfold plS
    split
    · exact h
    · exact Nat.zero_le _
  · exact h
theorem on_size (x : RS) (n : Int) (k : Nat) {m : Nat} (h : x.s.size ≤ m) : (x.on n k).s.size ≤ m := by
  induction k with
  | zero => exact h
  | succ k ih => exact go_size _ _ ih
theorem plV_bd (s : ByteArray) (a n : Int) : 0 ≤ plV s a n ∧ plV s a n ≤ 2147483647 ∧ (0 ≤ n → plV s a n < B.P2 n.toNat) := by
  unfold plV
  split
  · rename_i h
    have hn : 0 ≤ n ∧ n ≤ 31 := by
      unfold plE at h
      split at h
      · omega
      · cases h
    have h1 := B.fld_lt s.data.toList a.toNat n.toNat
    have h2 : B.P2 n.toNat ≤ 2147483648 := B.P2_le (b := 31) (by omega)
    omega
  · have := B.P2_pos n.toNat
    omega
theorem sgV_bd (s : ByteArray) (a n : Int) : -2147483648 ≤ sgV s a n ∧ sgV s a n ≤ 2147483647 := by
  have hp := plV_bd s a n
  unfold sgV
  split
  · rename_i h
    have hn : plE s.size a n = 0 := by
      apply Decidable.byContradiction
      intro hh
      have : plV s a n = 0 := if_neg hh
      have := B.P2_pos n.toNat
      omega
    have hn2 : n ≤ 31 := by
      unfold plE at hn
      split at hn
      · omega
      · cases hn
    have h2 : B.P2 n.toNat ≤ 2147483648 := B.P2_le (b := 31) (by omega)
    omega
  · omega
theorem pl_bd (x : RS) (n : Int) : 0 ≤ x.pl n ∧ x.pl n ≤ 2147483647 ∧ (0 ≤ n → x.pl n < B.P2 n.toNat) := by
  unfold pl
  split
  · exact plV_bd _ _ _
  · have := B.P2_pos n.toNat
    omega
theorem sg_bd (x : RS) (n : Int) : -2147483648 ≤ x.sg n ∧ x.sg n ≤ 2147483647 := by
  unfold sg
  split
  · exact sgV_bd _ _ _
  · omega
theorem l_bd (x : RS) (n : Int) (k : Nat) : ∀ v ∈ x.l n k, -2147483648 ≤ v ∧ v ≤ 2147483647 := by
  induction k with
  | zero => intro v hv; simp [l] at hv
  | succ k ih =>
    intro v hv
    rw [l, List.mem_append] at hv
    rcases hv with hv | hv
    · exact ih v hv
    · rw [List.mem_singleton] at hv; rw [hv]; exact sg_bd _ _
/-- at the end: the reader behind, aligned; an error, if what was read is not right -/
def fin (x : RS) (b : Bool) : RS := if x.e = 0 then (if b = true then ⟨x.s, alA x.s.size x.a, 0⟩ else ⟨⟨#[]⟩, 0, 3⟩) else ⟨⟨#[]⟩, 0, x.e⟩
/-- from a whole byte on -/
def begP (s : ByteArray) (a : Int) : RS := ⟨s, alA s.size a, 0⟩
def begR (s : ByteArray) (a : Int) : RS := if 0 ≤ a ∧ a ≤ 8 * s.size then ⟨s, alA s.size a, 0⟩ else ⟨⟨#[]⟩, 0, 1⟩
theorem beg_eq (s : ByteArray) (a n : Int) : (begR s a).pl n = (begP s a).pl n ∧ (begR s a).go n = (begP s a).go n := by
  unfold begR
  split
  · exact ⟨rfl, rfl⟩
  · rename_i h
    have e : plE s.size (alA s.size a) n = 1 := by
      have ea : alA s.size a = a := if_neg h
      rw [ea]
      unfold plE
      rw [if_neg (by omega)]
    have h1 : ∀ y : Int, (⟨⟨#[]⟩, 0, 1⟩ : RS).pl y = 0 := fun y => if_neg (by decide)
    have h2 : ∀ y : Int, (⟨⟨#[]⟩, 0, 1⟩ : RS).go y = ⟨⟨#[]⟩, 0, 1⟩ := fun y => if_neg (by decide)
    rw [h1, h2]
    unfold begP pl go
    simp only [if_true]
    unfold plV plS plA
    rw [e]
    exact ⟨rfl, rfl⟩
end RS
end Go.Proofs.Ytfaipbdkkkhacaa
/- Blocks that are known whole; laws for whole arrays and structs; lists of numbers in memory. -/
namespace Go.Proofs.Ytfaipbdkkkhacaa
open Go.RowKit
set_option linter.unusedVariables false

/-- a block whose cells are known, all of them -/
def Blk (w : World) (b : Nat) (cs : Array Value) (t : TypeId) : Prop := w.heap[b]? = some (.cells cs t (0, 0))
section
variable {w w' : World} {b : Nat} {cs : Array Value} {t : TypeId}
theorem Blk.lt (h : Blk w b cs t) : b < w.heap.size := (Array.getElem?_eq_some_iff.1 h).1
theorem Blk.cell (h : Blk w b cs t) (i : Nat) : w.cell? ⟨b, i, none⟩ = cs[i]? := cell_of_row w b i cs t (0, 0) h
theorem Blk.frozen (h : Blk w b cs t) (i : Nat) : w.frozen? ⟨b, i, none⟩ = false := frozen_of_row w b i cs t h
theorem Blk.keep (h : Blk w b cs t) (hb : Below w.heap.size w w') : Blk w' b cs t := by unfold Blk; rw [hb.block b h.lt]; exact h
theorem blk_new (w : World) (cs : Array Value) (t : TypeId) : Blk (w.alloc (.cells cs t)) w.heap.size cs t := heap_alloc_new w _
theorem Blk.alloc (h : Blk w b cs t) (o : Obj) : Blk (w.alloc o) b cs t := by unfold Blk; rw [Below.heap_alloc w o b h.lt]; exact h
theorem Blk.drew (h : Blk w b cs t) : Blk w.drew b cs t := h
theorem Blk.drewN (h : Blk w b cs t) (n : Nat) : Blk (w.drewN n) b cs t := h
theorem Blk.set (h : Blk w b cs t) (i : Nat) (v : Value) : Blk (w.setCell ⟨b, i, none⟩ v) b (cs.setIfInBounds i v) t := heap_setCell_same w b i cs t v h
theorem Blk.other (h : Blk w b cs t) {a : Addr} (v : Value) (ha : b ≠ a.block) : Blk (w.setCell a v) b cs t := by unfold Blk; rw [heap_setCell_other w a b v ha]; exact h
theorem Blk.row (h : Blk w b cs t) (cs' : Array Value) : Blk (w.setRow b cs') b cs' t := setRow_heap w b cs cs' t (0, 0) h
theorem Blk.rowOther (h : Blk w b cs t) (g : Nat) (cs' : Array Value) (hg : b ≠ g) : Blk (w.setRow g cs') b cs t := by unfold Blk; rw [setRow_other w g b cs' hg]; exact h
end
theorem bq_row {a b : World} (h : Below a.heap.size a b) (g : Nat) (hg : a.heap.size ≤ g) (cs : Array Value) : Below a.heap.size a (b.setRow g cs) :=
  h.trans ⟨rfl, rfl, rfl, by simp, fun k hk => setRow_other b g k cs (by omega)⟩
/-- one block has turned, nothing else -/
structure Turned (g : Nat) (w w' : World) : Prop where
  os : w'.os = w.os
  tape : w'.tape = w.tape
  output : w'.output = w.output
  size : w'.heap.size = w.heap.size
  block : ∀ k, k ≠ g → w'.heap[k]? = w.heap[k]?
section
variable {w w' : World} {b g : Nat} {cs : Array Value} {t : TypeId}
theorem Turned.blk (h : Turned g w w') (hB : Blk w b cs t) (hn : b ≠ g) : Blk w' b cs t := by unfold Blk; rw [h.block b hn]; exact hB
theorem Turned.below {a : World} (h : Turned g w w') (hb : Below a.heap.size a w) (hg : a.heap.size ≤ g) : Below a.heap.size a w' :=
  hb.trans ⟨h.os, h.tape, h.output, Nat.le_of_eq h.size.symm, fun k hk => h.block k (by omega)⟩
theorem Turned.cell (h : Turned g w w') {p : Addr} (hp : p.block ≠ g) : w'.cell? p = w.cell? p := World.cell?_of_block (w := w) (h.block p.block hp)
theorem turned_row (w : World) (g : Nat) (cs : Array Value) : Turned g w (w.setRow g cs) := ⟨rfl, rfl, rfl, by simp, fun k hk => setRow_other w g k cs hk⟩
theorem turned_set (w : World) (a : Addr) (v : Value) : Turned a.block w (w.setCell a v) := ⟨rfl, rfl, rfl, by simp [World.setCell], fun k hk => heap_setCell_other w a k v hk⟩
end
section
variable {P : Program} {ops : Array Oper} {rest : List Oper} {o : Oper} {a : Act} {w : World} {Q : Exit → Act → World → Prop}
theorem wl_alloc (ty : TypeId) (z : Array Value) (hz : ∀ w, (zeroValue ty).run P w = .ok (.agg z) w) (ho : o.op = .alloc ty) (hgd : o.guard = none)
    (h : ∀ W b, Blk W b z ty → w.heap.size ≤ b → Below w.heap.size w W → wpList P ops Q rest (a.put o.dst (.pointer (some ⟨b, 0, none⟩))) W) : wpList P ops Q (o :: rest) a w := by
  refine wpList_plain hgd fun K hK => ?_
  have := h (w.alloc (.cells z ty)) w.heap.size (blk_new w z ty) (Nat.le_refl _) (bq_alloc (bq_refl w) _)
  unfold Oper.wp execOp
  simp only [ho, Instr.alloc, Sem.run_bind, hz, Result.andThen_ok, newVar, newRow, Value.cells]
  exact hK _ _ this
theorem wl_box (ty : TypeId) (x : Operand) (cs : Array Value) (ho : o.op = .box ty x) (hgd : o.guard = none) (hx : a.eval x = .agg cs)
    (h : ∀ W b, Blk W b cs ty → w.heap.size ≤ b → Below w.heap.size w W → wpList P ops Q rest (a.put o.dst (.pointer (some ⟨b, 0, none⟩))) W) : wpList P ops Q (o :: rest) a w := by
  refine wpList_plain hgd fun K hK => ?_
  have := h (w.alloc (.cells cs ty)) w.heap.size (blk_new w cs ty) (Nat.le_refl _) (bq_alloc (bq_refl w) _)
  unfold Oper.wp execOp
  simp only [ho, hx, Instr.box, Sem.run_bind, newVar, newRow, Value.cells]
  exact hK _ _ this
theorem wl_load (ty : TypeId) (n : Nat) (d : TypeDesc) (hu : P.underlying ty = some d) (hd : (match d with | .struct _ | .array _ _ => true | _ => false) = true) (hi : (P.info? ty).map (·.size) = some n)
    (x : Operand) (ho : o.op = .load ty x) (hgd : o.guard = none) (b : Nat) (hx : a.eval x = .pointer (some ⟨b, 0, none⟩)) (cs : Array Value) (t : TypeId) (hB : Blk w b cs t) (hn : cs.size = n)
    (h : wpList P ops Q rest (a.put o.dst (.agg cs)) w) : wpList P ops Q (o :: rest) a w :=
  wpList_load_row hgd ty x ho b hx t cs (0, 0) d hB hu hd (by rw [hi, hn]) h
theorem wlg_load (ty : TypeId) (n : Nat) (d : TypeDesc) (hu : P.underlying ty = some d) (hd : (match d with | .struct _ | .array _ _ => true | _ => false) = true) (hi : (P.info? ty).map (·.size) = some n)
    (x : Operand) (ho : o.op = .load ty x) (hw : Region.wanted o (yielded ops a.tmps) = true) (b : Nat) (hx : a.eval x = .pointer (some ⟨b, 0, none⟩)) (cs : Array Value) (t : TypeId) (hB : Blk w b cs t) (hn : cs.size = n)
    (h : wpList P ops Q rest (a.put o.dst (.agg cs)) w) : wpList P ops Q (o :: rest) a w := by
  refine wpList_step fun K hK => ?_
  rw [if_pos hw]
  exact wp_load_row ty x ho b hx t cs (0, 0) d hB hu hd (by rw [hi, hn]) (hK _ _ h)
theorem wlg_build (ty : TypeId) (ps : List (Nat × Value)) (cs : Array Value) (hb : P.built ty ps = some cs) (parts : Array (Nat × Operand)) (ho : o.op = .build ty parts) (hw : Region.wanted o (yielded ops a.tmps) = true)
    (hps : (parts.toList.map fun (i, x) => (i, a.eval x)) = ps)
    (h : wpList P ops Q rest (a.put o.dst (.agg cs)) w) : wpList P ops Q (o :: rest) a w := by
  refine wpList_step fun K hK => ?_
  rw [if_pos hw]
  rw [← hps, ← Array.toList_map] at hb
  exact wp_build ty parts ho (by rw [hb]; rfl) (by rw [hb]; exact hK _ _ h)
theorem wl_store (ty : TypeId) (n : Nat) (hi : (P.info? ty).map (·.size) = some n)
    (x y : Operand) (ho : o.op = .store ty x y) (hgd : o.guard = none) (b : Nat) (hx : a.eval x = .pointer (some ⟨b, 0, none⟩)) (cs : Array Value) (hy : a.eval y = .agg cs) (old : Array Value) (t : TypeId) (hB : Blk w b old t) (hn : old.size = n) (hn2 : cs.size = n)
    (h1 : cs.all (·.oneCell') = true)
    (h : ∀ W, Blk W b cs t → Turned b w W → wpList P ops Q rest (a.put o.dst undef) W) : wpList P ops Q (o :: rest) a w :=
  wpList_store_row hgd ty x y ho b cs hx hy t old hB (by rw [hi, hn2]) (by rw [hn, hn2]) h1 (h _ (Blk.row hB cs) (turned_row w b cs))
theorem wl_make (t e : TypeId) (i : TypeInfo) (z : Value) (ht : P.underlying t = some (.slice e)) (hi : P.info? e = some i) (hz : i.zero = some z) (h1 : i.size = 1) (h8 : i.bytes ≤ 8) (hc : z.cells = #[z])
    (l c : Operand) (ho : o.op = .makeSlice t l c) (hgd : o.guard = none) (n : Nat) (hl : a.eval l = .int .i64 (n : Int)) (hcc : a.eval c = .int .i64 (n : Int)) (hn : n ≤ 1000000)
    (h : ∀ W b, Blk W b (Array.replicate n z) e → w.heap.size ≤ b → Below w.heap.size w W → wpList P ops Q rest (a.put o.dst (.slice (some ⟨b, 0, none⟩) n n)) W) : wpList P ops Q (o :: rest) a w := by
  refine wpList_plain hgd fun K hK => ?_
  have e1 : madeCells z.cells (n * i.size) = Array.replicate n z := by
    rw [h1, hc]
    unfold madeCells
    apply Array.ext
    · simp
    · intro j hj hj2
      simp [Nat.mod_one]
  have hr := run_make (P := P) w t e i z ht hi hz .i64 .i64 n n (by omega) (by omega) (by
    have h3 : (i.bytes : Int) * (n : Int) ≤ 8 * (n : Int) := Int.mul_le_mul_of_nonneg_right (by omega) (by omega)
    omega) (by omega)
  simp only [Int.toNat_natCast, e1] at hr
  have := h (w.alloc (.cells (Array.replicate n z) e)) w.heap.size (blk_new w _ e) (Nat.le_refl _) (bq_alloc (bq_refl w) _)
  unfold Oper.wp execOp
  simp only [ho, hl, hcc, Sem.run_bind, hr, Result.andThen_ok]
  exact hK _ _ this
end
/-- a result that lies in a block, and one in a slot -/
theorem post_cell_tmp {P : Program} {fn : Func} {p u : Tmp} {ty : TypeId} {a : Act} {W : World} {R : Ending → World → Prop} {n : Nat} {d : TypeDesc}
    (hu : P.underlying ty = some d) (hd : (match d with | .struct _ | .array _ _ => true | _ => false) = true) (hi : (P.info? ty).map (·.size) = some n)
    (hres : fn.results = #[.cell p ty, .tmp u]) {b : Nat} {cs : Array Value} {t : TypeId} (hB : Blk W b cs t) (hn : cs.size = n)
    (hp : a.tmps.getD p undef = .pointer (some ⟨b, 0, none⟩)) {v : Value} (hv : a.tmps.getD u undef = v) (hdf : a.defers = []) (hR : R (.returned (.tuple #[.agg cs, v])) W) : bodyPost P fn R .ret a W := by
  refine bodyPost_ret (v := .tuple #[.agg cs, v]) ?_ hdf hR
  rw [results_cell_tmp hres, hp, hv]
  simp [asAddr, run_loadVar_row W b t ty cs (0, 0) d hB hu hd (by rw [hi, hn])]
theorem post_cell {P : Program} {fn : Func} {p : Tmp} {ty : TypeId} {a : Act} {W : World} {R : Ending → World → Prop} {n : Nat} {d : TypeDesc}
    (hu : P.underlying ty = some d) (hd : (match d with | .struct _ | .array _ _ => true | _ => false) = true) (hi : (P.info? ty).map (·.size) = some n)
    (hres : fn.results = #[.cell p ty]) {b : Nat} {cs : Array Value} {t : TypeId} (hB : Blk W b cs t) (hn : cs.size = n)
    (hp : a.tmps.getD p undef = .pointer (some ⟨b, 0, none⟩)) (hdf : a.defers = []) (hR : R (.returned (.agg cs)) W) : bodyPost P fn R .ret a W :=
  bodyPost_ret (v := .agg cs) (results_cell_row hres a.tmps W b t cs (0, 0) d hp hB hu hd (by rw [hi, hn])) hdf hR
/-- numbers that a slice reads as -/
def Ints (w : World) (zs : List Int) (a : Option Addr) (b o : Nat) : Prop :=
  (zs.length = 0 ∨ a = some ⟨b, o, none⟩) ∧ (∀ i (h : i < zs.length), -9223372036854775808 ≤ zs[i] ∧ zs[i] ≤ 9223372036854775807) ∧ ∀ i (h : i < zs.length), w.cell? ⟨b, o + i, none⟩ = some (.int .i64 zs[i])
theorem Ints.lt {w : World} {zs : List Int} {a : Option Addr} {b o : Nat} (h : Ints w zs a b o) (h0 : 0 < zs.length) : b < w.heap.size := block_lt_of_cell (h.2.2 0 h0)
theorem Ints.keep {w w' : World} {zs : List Int} {a : Option Addr} {b o : Nat} (h : Ints w zs a b o) (hb : Below w.heap.size w w') : Ints w' zs a b o :=
  ⟨h.1, h.2.1, fun i hi => by rw [hb.cell (p := ⟨b, o + i, none⟩) (h.lt (by omega))]; exact h.2.2 i hi⟩
theorem Ints.at {w w' : World} {zs : List Int} {a : Option Addr} {b o : Nat} (h : Ints w zs a b o) (hb : Below w.heap.size w w') (i : Nat) (hi : i < zs.length) : a = some ⟨b, o, none⟩ ∧ -9223372036854775808 ≤ zs[i] ∧ zs[i] ≤ 9223372036854775807 ∧ w'.cell? ⟨b, o + i, none⟩ = some (.int .i64 zs[i]) :=
  ⟨h.1.resolve_left (by omega), (h.2.1 i hi).1, (h.2.1 i hi).2, (h.keep hb).2.2 i hi⟩

/-- cells of numbers -/
def iA (zs : List Int) : Array Value := (zs.map (Value.int .i64 ·)).toArray
theorem iA_size (zs : List Int) : (iA zs).size = zs.length := by simp [iA]
theorem iA_at (zs : List Int) (i : Nat) (h : i < zs.length) : (iA zs)[i]? = some (.int .i64 zs[i]) := by simp [iA, h]
theorem iA_one (zs : List Int) : (iA zs).all (·.oneCell') = true := by
  rw [Array.all_eq_true_iff_forall_mem]
  intro v hv
  simp only [iA, List.mem_toArray, List.mem_map] at hv
  obtain ⟨z, _, rfl⟩ := hv
  rfl
theorem Blk.ints {w : World} {b : Nat} {zs : List Int} {t : TypeId} (h : Blk w b (iA zs) t) (hb : ∀ v ∈ zs, -9223372036854775808 ≤ v ∧ v ≤ 9223372036854775807) : Ints w zs (some ⟨b, 0, none⟩) b 0 :=
  ⟨Or.inr rfl, fun i hi => hb _ (List.getElem_mem hi), fun i hi => by rw [Nat.zero_add, h.cell i, iA_at zs i hi]⟩
/-- some of a block's numbers -/
theorem Blk.part {w : World} {b : Nat} {zs ys : List Int} {t : TypeId} (k : Nat) (h : Blk w b (iA zs) t) (hy : ys = (zs.drop k).take ys.length) (hb : ∀ v ∈ ys, -9223372036854775808 ≤ v ∧ v ≤ 9223372036854775807) : Ints w ys (some ⟨b, k, none⟩) b k := by
  refine ⟨Or.inr rfl, fun i hi => hb _ (List.getElem_mem hi), fun i hi => ?_⟩
  have hl : ys.length = min ys.length (zs.length - k) := by
    have := congrArg List.length hy
    simpa using this
  have hz : k + i < zs.length := by omega
  rw [h.cell (k + i), iA_at zs _ hz]
  have e : ys[i] = ((zs.drop k).take ys.length)[i]'(by rw [← hy]; exact hi) := by congr 1
  rw [e, List.getElem_take, List.getElem_drop]
section
variable {ops : Array Oper} {rest : List Oper} {o : Oper} {a : Act} {w : World} {Q : Exit → Act → World → Prop}
theorem int_info : (Try.prog.info? 3).map (fun i => (i.zero, i.size, i.bytes)) = some (some (.int .i64 0), 1, 8) := by kernel_rfl
theorem wlg_slice {P : Program} (t e : TypeId) (len : Nat) (cs : Array Value) (ps : List (Nat × Value)) (hr : ∀ w : World, (Instr.buildSlice t len ps.toArray).run P w = .ok (.slice (some ⟨w.heap.size, 0, none⟩) len len) (w.alloc (.cells cs e)))
    (parts : Array (Nat × Operand)) (ho : o.op = .buildSlice t len parts) (hw : Region.wanted o (yielded ops a.tmps) = true) (hps : (parts.toList.map fun (i, x) => (i, a.eval x)) = ps)
    (h : ∀ W b, Blk W b cs e → w.heap.size ≤ b → Below w.heap.size w W → wpList P ops Q rest (a.put o.dst (.slice (some ⟨b, 0, none⟩) len len)) W) : wpList P ops Q (o :: rest) a w := by
  refine wpList_step fun K hK => ?_
  rw [if_pos hw]
  have := h (w.alloc (.cells cs e)) w.heap.size (blk_new w cs e) (Nat.le_refl _) (bq_alloc (bq_refl w) _)
  have e1 : (parts.map fun (i, x) => (i, a.eval x)) = ps.toArray := by rw [← hps, ← Array.toList_map, Array.toArray_toList]
  unfold Oper.wp execOp
  simp only [ho, Sem.run_bind, e1, hr w, Result.andThen_ok]
  exact hK _ _ this
theorem ints4_run (x y z u : Int) (w : World) : (Instr.buildSlice 82 4 [(0, .int .i64 x), (1, .int .i64 y), (2, .int .i64 z), (3, .int .i64 u)].toArray).run Try.prog w = .ok (.slice (some ⟨w.heap.size, 0, none⟩) 4 4) (w.alloc (.cells (iA [x, y, z, u]) 3)) := by
  obtain ⟨ie, h1, h2⟩ := Option.map_eq_some_iff.1 int_info
  have hz : ie.zero = some (.int .i64 0) := congrArg (·.1) h2
  have hs : ie.size = 1 := congrArg (·.2.1) h2
  refine run_buildSlice w 82 3 4 _ _ ie (.int .i64 0) Try.underlying82 h1 hz (by rw [hs]; decide) (by rw [hs]; decide) ?_
  rw [hs]; kernel_rfl
theorem ints2_run (x y : Int) (w : World) : (Instr.buildSlice 82 2 [(0, .int .i64 x), (1, .int .i64 y)].toArray).run Try.prog w = .ok (.slice (some ⟨w.heap.size, 0, none⟩) 2 2) (w.alloc (.cells (iA [x, y]) 3)) := by
  obtain ⟨ie, h1, h2⟩ := Option.map_eq_some_iff.1 int_info
  have hz : ie.zero = some (.int .i64 0) := congrArg (·.1) h2
  have hs : ie.size = 1 := congrArg (·.2.1) h2
  refine run_buildSlice w 82 3 2 _ _ ie (.int .i64 0) Try.underlying82 h1 hz (by rw [hs]; decide) (by rw [hs]; decide) ?_
  rw [hs]; kernel_rfl
end
/-- results in two blocks and a slot, in two blocks, in a slot and a block -/
theorem post_cell2_tmp {P : Program} {fn : Func} {p q u : Tmp} {ty ty' : TypeId} {a : Act} {W : World} {R : Ending → World → Prop} {n n' : Nat} {d d' : TypeDesc}
    (hu : P.underlying ty = some d) (hd : (match d with | .struct _ | .array _ _ => true | _ => false) = true) (hi : (P.info? ty).map (·.size) = some n)
    (hu' : P.underlying ty' = some d') (hd' : (match d' with | .struct _ | .array _ _ => true | _ => false) = true) (hi' : (P.info? ty').map (·.size) = some n')
    (hres : fn.results = #[.cell p ty, .cell q ty', .tmp u]) {b b' : Nat} {cs cs' : Array Value} {t t' : TypeId} (hB : Blk W b cs t) (hn : cs.size = n) (hB' : Blk W b' cs' t') (hn' : cs'.size = n')
    (hp : a.tmps[p]?.getD undef = .pointer (some ⟨b, 0, none⟩)) (hq : a.tmps[q]?.getD undef = .pointer (some ⟨b', 0, none⟩)) {v : Value} (hv : a.tmps[u]?.getD undef = v) (hdf : a.defers = []) (hR : R (.returned (.tuple #[.agg cs, .agg cs', v])) W) : bodyPost P fn R .ret a W := by
  refine bodyPost_ret (v := .tuple #[.agg cs, .agg cs', v]) ?_ hdf hR
  simp only [results, hres]
  simp [Sem.run_bind, Result.andThen, hp, hq, hv, asAddr, run_loadVar_row W b t ty cs (0, 0) d hB hu hd (by rw [hi, hn]), run_loadVar_row W b' t' ty' cs' (0, 0) d' hB' hu' hd' (by rw [hi', hn'])]
theorem post_cell2 {P : Program} {fn : Func} {p q : Tmp} {ty ty' : TypeId} {a : Act} {W : World} {R : Ending → World → Prop} {n n' : Nat} {d d' : TypeDesc}
    (hu : P.underlying ty = some d) (hd : (match d with | .struct _ | .array _ _ => true | _ => false) = true) (hi : (P.info? ty).map (·.size) = some n)
    (hu' : P.underlying ty' = some d') (hd' : (match d' with | .struct _ | .array _ _ => true | _ => false) = true) (hi' : (P.info? ty').map (·.size) = some n')
    (hres : fn.results = #[.cell p ty, .cell q ty']) {b b' : Nat} {cs cs' : Array Value} {t t' : TypeId} (hB : Blk W b cs t) (hn : cs.size = n) (hB' : Blk W b' cs' t') (hn' : cs'.size = n')
    (hp : a.tmps[p]?.getD undef = .pointer (some ⟨b, 0, none⟩)) (hq : a.tmps[q]?.getD undef = .pointer (some ⟨b', 0, none⟩)) (hdf : a.defers = []) (hR : R (.returned (.tuple #[.agg cs, .agg cs'])) W) : bodyPost P fn R .ret a W := by
  refine bodyPost_ret (v := .tuple #[.agg cs, .agg cs']) ?_ hdf hR
  simp only [results, hres]
  simp [Sem.run_bind, Result.andThen, hp, hq, asAddr, run_loadVar_row W b t ty cs (0, 0) d hB hu hd (by rw [hi, hn]), run_loadVar_row W b' t' ty' cs' (0, 0) d' hB' hu' hd' (by rw [hi', hn'])]
theorem post_tmp_cell {P : Program} {fn : Func} {p u : Tmp} {ty : TypeId} {a : Act} {W : World} {R : Ending → World → Prop} {n : Nat} {d : TypeDesc}
    (hu : P.underlying ty = some d) (hd : (match d with | .struct _ | .array _ _ => true | _ => false) = true) (hi : (P.info? ty).map (·.size) = some n)
    (hres : fn.results = #[.tmp u, .cell p ty]) {b : Nat} {cs : Array Value} {t : TypeId} (hB : Blk W b cs t) (hn : cs.size = n)
    (hp : a.tmps[p]?.getD undef = .pointer (some ⟨b, 0, none⟩)) {v : Value} (hv : a.tmps[u]?.getD undef = v) (hdf : a.defers = []) (hR : R (.returned (.tuple #[v, .agg cs])) W) : bodyPost P fn R .ret a W := by
  refine bodyPost_ret (v := .tuple #[v, .agg cs]) ?_ hdf hR
  simp only [results, hres]
  simp [Result.andThen, hp, hv, asAddr, run_loadVar_row W b t ty cs (0, 0) d hB hu hd (by rw [hi, hn])]
end Go.Proofs.Ytfaipbdkkkhacaa
/- Laws for loads and stores in the midst of a block of the call's own: the world behind each is a letter. -/
namespace Go.Proofs.Ytfaipbdkkkhacaa
open Go.RowKit
set_option linter.unusedVariables false

theorem Blk.under {w w' : World} {b B : Nat} {cs : Array Value} {t : TypeId} (h : Blk w b cs t) (hb : Below B w w') (hB : b < B) : Blk w' b cs t := by unfold Blk; rw [hb.block b hB]; exact h
/-- values laid into a row, from a place on -/
def spl : Array Value → Nat → List Value → Array Value
  | cs, _, [] => cs
  | cs, k, v :: vs => spl (cs.setIfInBounds k v) (k + 1) vs
theorem blk_setCells {b : Nat} {t : TypeId} : ∀ (vs : List Value) (k : Nat) (w : World) (cs : Array Value), Blk w b cs t → Blk (w.setCells b k vs) b (spl cs k vs) t
  | [], _, _, _, h => h
  | v :: vs, k, w, cs, h => blk_setCells vs (k + 1) _ _ (h.set k v)
theorem turned_trans {g : Nat} {a b c : World} (h : Turned g a b) (k : Turned g b c) : Turned g a c :=
  ⟨k.os.trans h.os, k.tape.trans h.tape, k.output.trans h.output, k.size.trans h.size, fun i hi => (k.block i hi).trans (h.block i hi)⟩
theorem turned_refl (g : Nat) (w : World) : Turned g w w := ⟨rfl, rfl, rfl, rfl, fun _ _ => rfl⟩
theorem turned_setCells (b : Nat) : ∀ (vs : List Value) (k : Nat) (w : World), Turned b w (w.setCells b k vs)
  | [], _, w => turned_refl b w
  | v :: vs, k, w => turned_trans (turned_set w ⟨b, k, none⟩ v) (turned_setCells b vs (k + 1) _)
theorem Blk.isSome {w : World} {b : Nat} {cs : Array Value} {t : TypeId} (h : Blk w b cs t) (i : Nat) (hi : i < cs.size) : (w.cell? ⟨b, i, none⟩).isSome = true := by
  rw [h.cell i]; simp [hi]
section
variable {P : Program} {ops : Array Oper} {rest : List Oper} {o : Oper} {a : Act} {w : World} {Q : Exit → Act → World → Prop}
/-- one cell -/
theorem wl_set (ty : TypeId) (x y : Operand) (ho : o.op = .store ty x y) (hgd : o.guard = none) (b k : Nat) (hx : a.eval x = .pointer (some ⟨b, k, none⟩)) (v : Value) (hy : a.eval y = v) (h1 : v.oneCell' = true) (hi : (P.info? ty).map (·.size) = some 1)
    (cs : Array Value) (t : TypeId) (hB : Blk w b cs t) (hk : k < cs.size)
    (h : ∀ W, Blk W b (cs.setIfInBounds k v) t → Turned b w W → wpList P ops Q rest (a.put o.dst undef) W) : wpList P ops Q (o :: rest) a w := by
  refine wpList_plain hgd fun K hK => ?_
  have hr := run_storeCells_cells (P := P) b k [v] 0 w (fun j hj => by simp at hj; subst hj; simpa using hB.isSome k hk) (fun j hj => by simp at hj; subst hj; exact hB.frozen _) (fun u hu => by simp at hu; subst hu; exact h1)
  have hc : v.cells = #[v] := by cases v <;> first | rfl | cases h1
  have hs : (storeVar ty ⟨b, k, none⟩ v).run P w = .ok () (w.setCell ⟨b, k, none⟩ v) := by
    cases hq : P.info? ty with
    | none => simp [hq] at hi
    | some i =>
      have hs : i.size = 1 := by simpa [hq] using hi
      simp only [Nat.add_zero] at hr
      simp [storeVar, sizeOf, typeInfo, hq, hc, hs, hr, World.setCells]
  have := h _ (hB.set k v) (turned_set w ⟨b, k, none⟩ v)
  unfold Oper.wp execOp
  simp only [ho, hx, hy, Instr.storeAt, Instr.sureAddr, Sem.run_bind, Sem.run_pure, Result.andThen_ok, hs]
  exact hK _ _ this
/-- several cells into a block -/
theorem wl_putAt (ty : TypeId) (x y : Operand) (ho : o.op = .store ty x y) (hgd : o.guard = none) (b k : Nat) (hx : a.eval x = .pointer (some ⟨b, k, none⟩)) (us : Array Value) (hy : a.eval y = .agg us) (hi : (P.info? ty).map (·.size) = some us.size) (h1 : us.all (·.oneCell') = true)
    (cs : Array Value) (t : TypeId) (hB : Blk w b cs t) (hk : k + us.size ≤ cs.size) (cs' : Array Value) (hcs : spl cs k us.toList = cs')
    (h : ∀ W, Blk W b cs' t → Turned b w W → wpList P ops Q rest (a.put o.dst undef) W) : wpList P ops Q (o :: rest) a w :=
  wpList_store_mid hgd ty x y ho b k us hx hy (fun j hj => ⟨hB.isSome _ (by omega), hB.frozen _⟩) hi h1 (h _ (hcs ▸ blk_setCells us.toList k w cs hB) (turned_setCells b us.toList k w))
/-- several cells out of a block -/
theorem wl_getAt (ty : TypeId) (d : TypeDesc) (hu : P.underlying ty = some d) (hd : d.isRow = true) (x : Operand) (ho : o.op = .load ty x) (hgd : o.guard = none) (b k : Nat) (hx : a.eval x = .pointer (some ⟨b, k, none⟩)) (us : List Value) (hi : (P.info? ty).map (·.size) = some us.length)
    (cs : Array Value) (t : TypeId) (hB : Blk w b cs t) (hus : ∀ j, j < us.length → cs[k + j]? = us[j]?)
    (h : wpList P ops Q rest (a.put o.dst (.agg us.toArray)) w) : wpList P ops Q (o :: rest) a w :=
  wpList_load_mid hgd ty x ho b k hx us d (fun j v hv => by rw [hB.cell, hus j (List.getElem?_eq_some_iff.1 hv).1, hv]) hu hd hi h
end
/-- all but two blocks are as they were -/
structure But (p q : Nat) (w w' : World) : Prop where
  os : w'.os = w.os
  tape : w'.tape = w.tape
  output : w'.output = w.output
  size : w.heap.size ≤ w'.heap.size
  block : ∀ k, k < w.heap.size → k ≠ p → k ≠ q → w'.heap[k]? = w.heap[k]?
theorem But.of {p q : Nat} {w w' : World} (h : Below w.heap.size w w') : But p q w w' := ⟨h.os, h.tape, h.output, h.size, fun k hk _ _ => h.block k hk⟩
theorem But.setp {p q : Nat} {w w' : World} (i : Nat) (v : Value) (h : But p q w w') : But p q w (w'.setCell ⟨p, i, none⟩ v) :=
  ⟨h.os, h.tape, h.output, by simpa [World.setCell] using h.size, fun k hk hp hq => by rw [heap_setCell_other w' ⟨p, i, none⟩ k v hp]; exact h.block k hk hp hq⟩
theorem But.setq {p q : Nat} {w w' : World} (i : Nat) (v : Value) (h : But p q w w') : But p q w (w'.setCell ⟨q, i, none⟩ v) :=
  ⟨h.os, h.tape, h.output, by simpa [World.setCell] using h.size, fun k hk hp hq => by rw [heap_setCell_other w' ⟨q, i, none⟩ k v hq]; exact h.block k hk hp hq⟩
theorem Blk.but {p q b : Nat} {w w' : World} {cs : Array Value} {t : TypeId} (hB : Blk w b cs t) (h : But p q w w') (hp : b ≠ p) (hq : b ≠ q) : Blk w' b cs t := by
  unfold Blk; rw [h.block b hB.lt hp hq]; exact hB
theorem But.below {p q : Nat} {a w w' : World} (h : But p q w w') (hb : Below a.heap.size a w) (hp : a.heap.size ≤ p) (hq : a.heap.size ≤ q) : Below a.heap.size a w' :=
  hb.trans ⟨h.os, h.tape, h.output, h.size, fun k hk => h.block k (by have := hb.size; omega) (by omega) (by omega)⟩
end Go.Proofs.Ytfaipbdkkkhacaa
/- Numbers behind a row of the call's own; arrays that are the same. -/
namespace Go.Proofs.Ytfaipbdkkkhacaa
open Go.RowKit
set_option linter.unusedVariables false

/-- numbers as cells -/
def iL (l : List Int) : List Value := l.map (Value.int .i64 ·)
theorem iL_app (l m : List Int) : iL l ++ iL m = iL (l ++ m) := by simp [iL]
theorem iL_len (l : List Int) : (iL l).length = l.length := by simp [iL]
theorem iL_at (l : List Int) (j : Nat) (v : Value) (h : (iL l)[j]? = some v) : ∃ hj : j < l.length, v = .int .i64 l[j] := by
  simp only [iL, List.getElem?_map, Option.map_eq_some_iff] at h
  obtain ⟨z, hz, rfl⟩ := h
  obtain ⟨hj, rfl⟩ := List.getElem?_eq_some_iff.1 hz
  exact ⟨hj, rfl⟩
def OwnI (w : World) (B : Nat) (v : Value) (l : List Int) : Prop := w.ownsRow B 3 1 v l.length (iL l)
theorem ownI_nil (w : World) (B : Nat) : OwnI w B (.slice none 0 0) [] := World.ownsRow_nil w B 3 1
/-- the row as numbers that a slice reads as -/
theorem OwnI.ints {w : World} {B : Nat} {v : Value} {l : List Int} (h : OwnI w B v l) (hb : ∀ z ∈ l, -9223372036854775808 ≤ z ∧ z ≤ 9223372036854775807) : ∃ a b c, v = .slice a l.length c ∧ Ints w l a b 0 := by
  rcases h.2 with ⟨rfl, h0⟩ | ⟨g, cap, cur, rfl, _, h2, _, _, h5, h6⟩
  · have : l = [] := List.eq_nil_of_length_eq_zero h0
    subst this
    exact ⟨none, 0, 0, rfl, Or.inl rfl, fun i hi => absurd hi (by simp), fun i hi => absurd hi (by simp)⟩
  · refine ⟨_, g, cap, rfl, Or.inr rfl, fun i hi => hb _ (List.getElem_mem hi), fun i hi => ?_⟩
    have hB : Blk w g cur 3 := h2
    rw [Nat.zero_add, hB.cell i]
    have e : (cur.toList.take (l.length * 1))[i]? = some (.int .i64 l[i]) := by rw [h6]; simp [iL, hi]
    rw [List.getElem?_take_of_lt (by omega)] at e
    rw [← Array.getElem?_toList]
    exact e
theorem OwnI.keep {w w' : World} {B : Nat} {v : Value} {l : List Int} (h : OwnI w B v l) (k : Below w.heap.size w w') : OwnI w' B v l :=
  World.ownsRow.kept (row := none) h ⟨k.os, k.tape, k.output, k.size, fun i hi _ => k.block i hi⟩ (by cases hv : v.ownBlock <;> simp)
section
variable {ops : Array Oper} {rest : List Oper} {o : Oper} {a : Act} {w : World} {Q : Exit → Act → World → Prop}
theorem wl_appI (s x : Operand) (ho : o.op = .call { callee := .builtin .append, args := #[s, x], argTypes := #[82, 82] }) (hgd : o.guard = none)
    (B : Nat) (v : Value) (hs : a.eval s = v) (zs : List Int) (hown : OwnI w B v zs) (l : List Int) (g k c m : Nat) (hx : a.eval x = .slice (some ⟨g, k, none⟩) m c) (hm : l.length = m) (hI : ∀ i (h : i < l.length), w.cell? ⟨g, k + i, none⟩ = some (.int .i64 l[i]))
    (hn : zs.length + l.length ≤ 1000000) (hB : B ≤ w.heap.size)
    (h : ∀ v' w', OwnI w' B v' (zs ++ l) → Below B w w' → wpList Try.prog ops Q rest (a.put o.dst v') w') : wpList Try.prog ops Q (o :: rest) a w := by
  subst hm
  obtain ⟨i0, hi, h2⟩ := Option.map_eq_some_iff.1 int_info
  have hz0 : i0.zero = some (.int .i64 0) := congrArg (·.1) h2
  have hz1 : i0.size = 1 := congrArg (·.2.1) h2
  have hz2 : i0.bytes = 8 := congrArg (·.2.2) h2
  refine wpList_append_own _ hgd s x 82 ho B 3 i0 (.int .i64 0) 1 8 Try.underlying82 hi hz0 hz1 hz2 rfl (by decide) v zs.length (iL zs) hs hown ⟨g, k, none⟩ l.length c (iL l) hx (by rw [iL_len]; omega) ?_ ?_ ?_ ?_ hB ?_
  · intro j u hj
    obtain ⟨hj2, rfl⟩ := iL_at l j u hj
    rw [Addr.add_mid]
    exact hI j hj2
  · intro u hu
    simp only [iL, List.mem_map] at hu
    obtain ⟨z, _, rfl⟩ := hu
    rfl
  · unfold maxLen; omega
  · omega
  · intro v' w' h1 h2 _
    have h1' : OwnI w' B v' (zs ++ l) := by
      unfold OwnI
      rw [← iL_app, List.length_append]
      exact h1
    exact h v' w' h1' ⟨h2.os, h2.tape, h2.output, h2.size, fun i hi => h2.block i (by omega) (by
      intro e
      have := (World.ownsRow.lt hown i e.symm).1
      omega)⟩
end
/-- arrays of numbers that are the same -/
theorem ints_nil (w : World) : Ints w [] none 0 0 := ⟨Or.inl rfl, fun i hi => absurd hi (by simp), fun i hi => absurd hi (by simp)⟩
theorem cells3 : Try.prog.cellsOf 3 = 1 := by kernel_rfl
theorem eqItems_ints (l m : List Int) (d : Nat) (w : World) : ∀ is : List Nat, (∀ i ∈ is, i < l.length ∧ i < m.length) → (Op.eqItems (d + 1) 3 1 (iA l) (iA m) is).run Try.prog w = .ok (is.all fun n => l[n]? == m[n]?) w
  | [], _ => by simp [Op.eqItems]
  | i :: is, h => by
    obtain ⟨hi, hi2⟩ := h i (by simp)
    have p1 : (part 3 (iA l) (i * 1)).run Try.prog w = .ok (.int .i64 l[i]) w := by simp [part, iA_at l i hi]
    have p2 : (part 3 (iA m) (i * 1)).run Try.prog w = .ok (.int .i64 m[i]) w := by simp [part, iA_at m i hi2]
    have p3 : (Op.equalIn (d + 1) 3 (.int .i64 l[i]) (.int .i64 m[i])).run Try.prog w = .ok (l[i] == m[i]) w := run_equalIn_int w d 3 .i64 .i64 _ _ Try.underlying3
    have ih := eqItems_ints l m d w is (fun j hj => h j (by simp [hj]))
    simp only [Op.eqItems, Sem.run_bind, p1, p2, p3, Result.andThen_ok]
    by_cases e : l[i] = m[i]
    · simp [ih, e, hi, hi2]
    · have e1 : (l[i] == m[i]) = false := by rw [beq_eq_false_iff_ne]; exact e
      simp [e1, hi, hi2]
set_option maxRecDepth 100000 in
theorem eq4 (l m : List Int) (hl : l.length = 4) (hm : m.length = 4) (w : World) : (Op.equalIn 10000 28 (.agg (iA l)) (.agg (iA m))).run Try.prog w = .ok (decide (l = m)) w := by
  have hi : ∃ i, Try.prog.info? 3 = some i := Option.isSome_iff_exists.1 (by kernel_rfl)
  obtain ⟨i, hi⟩ := hi
  rw [run_equalIn_array w 9999 (iA l) (iA m) Try.underlying28 hi, cells3]
  rw [eqItems_ints l m 9998 w (List.range 4) (fun i h => by simp at h; omega)]
  congr 1
  rw [Bool.eq_iff_iff]
  simp only [List.all_eq_true, List.mem_range, beq_iff_eq, decide_eq_true_eq]
  constructor
  · intro h
    apply List.ext_getElem (by omega)
    intro n h1 h2
    have := h n (by omega)
    rw [List.getElem?_eq_getElem h1, List.getElem?_eq_getElem h2] at this
    exact Option.some.inj this
  · intro h n hn
    rw [h]
end Go.Proofs.Ytfaipbdkkkhacaa
/- Layer 7: whether numbers, rectangles, matrices, changes and colours are right. -/
namespace Go.Proofs.Ytfaipbdkkkhacaa
open Go.RowKit
set_option linter.unusedVariables false

def nr (m v : Int) : Bool := decide (-m ≤ v) && decide (v ≤ m)
theorem nr_iff (m v : Int) : nr m v = true ↔ -m ≤ v ∧ v ≤ m := by simp [nr]
theorem all_take (f : Int → Bool) (zs : List Int) (k : Nat) (h : k < zs.length) (h1 : (zs.take k).all f = true) (h2 : f zs[k] = true) : (zs.take (k + 1)).all f = true := by
  rw [List.take_succ_eq_append_getElem h, List.all_append, h1]
  simp [h2]
theorem all_not (f : Int → Bool) (zs : List Int) (k : Nat) (h : k < zs.length) (h2 : f zs[k] = false) : zs.all f = false := by
  rw [List.all_eq_false]
  exact ⟨zs[k], List.getElem_mem h, by rw [h2]; simp⟩
def NrRel (zs : List Int) (m : Int) (i : Value) : Prop := ∃ k : Nat, k ≤ zs.length ∧ i = .int .i64 k ∧ (zs.take k).all (nr m) = true
set_option maxHeartbeats 1000000 in
theorem near_list (zs : List Int) (m : Int) (a : Option Addr) (b o c : Nat) (w : World) (hl : zs.length ≤ 1000000) (m0 : 0 ≤ m) (m1 : m ≤ 1000000000) (ha : Hid (Ints w zs a b o)) :
    Calls Try.prog 43 #[.int .i64 m, .slice a zs.length c] w fun e w' => e = .returned (.bool (zs.all (nr m))) ∧ w = w' := by
  go_enter Try.func43, Try.ntmps43
  go_wp2
  go_loop [9] (fun i => NrRel zs m i) (fun i => zs.length - (intOf i).toNat)
  case atStart => exact ⟨0, by omega, rfl, rfl⟩
  case round =>
    obtain ⟨k, hk, rfl, hx⟩ := hrel
    have HX := Lib.hid hx
    clear hx
    by_cases hlt : k < zs.length
    · obtain ⟨rfl, z0, z1, hcell⟩ := ha.out.at (bq_refl w) k hlt
      have HY := Lib.hid (all_take (nr m) zs k hlt HX.out)
      have HN := Lib.hid (all_not (nr m) zs k hlt)
      generalize zs[k] = z at *
      by_cases c1 : z < -m
      · have HF : Hid (zs.all (nr m) = false) := Lib.hid (HN.out (by simp [nr]; omega))
        clear HX HY HN
        go_wp2
        go_ret
        exact ⟨ret_bool HF.out.symm, rfl⟩
      · by_cases c2 : m < z
        · have HF : Hid (zs.all (nr m) = false) := Lib.hid (HN.out (by simp [nr]; omega))
          clear HX HY HN
          go_wp2
          go_ret
          exact ⟨ret_bool HF.out.symm, rfl⟩
        · have HF : Hid ((zs.take (k + 1)).all (nr m) = true) := Lib.hid (HY.out (by simp [nr]; omega))
          clear HX HY HN
          go_wp2
          go_round
          case rel => exact ⟨k + 1, by omega, by go_num, HF.out⟩
          case measure => simp [intOf]; omega
    · obtain rfl : k = zs.length := by omega
      have HL : Hid (zs.all (nr m) = true) := Lib.hid (by rw [← HX.out, List.take_length])
      go_wp2
      go_ret
      exact ⟨ret_bool HL.out.symm, rfl⟩
theorem in_any (z m : Int) (w : World) (m0 : 0 ≤ m) (m1 : m ≤ 1000000000) :
    Calls Try.prog 42 #[.int .i64 z, .int .i64 m] w fun e w' => e = .returned (.bool (nr m z)) ∧ w = w' := by
  go_enter Try.func42, Try.ntmps42
  go_wp2
  all_goals (go_ret; exact ⟨ret_bool (by simp [nr]; try omega), rfl⟩)
end Go.Proofs.Ytfaipbdkkkhacaa
/- Layer 7: whether rectangles, matrices, changes and colours are right; the program's. -/
namespace Go.Proofs.Ytfaipbdkkkhacaa
open Go.RowKit
set_option linter.unusedVariables false

def rectOk (l r t b : Int) : Bool := [l, r, t, b].all (nr 1048576) && decide (l ≤ r) && decide (t ≤ b)
def matOk (a b c d x y : Int) : Bool := [a, b, c, d].all (nr 4194304) && [x, y].all (nr 1048576)
def cxOk (m d : List Int) : Bool := m.all (nr 512) && d.all (nr 255)
def rgbaOk (r g b a : Int) : Bool := [r, g, b, a].all (nr 255) && decide (0 ≤ r) && decide (0 ≤ g) && decide (0 ≤ b) && decide (0 ≤ a)
/-- it fits an int -/
def I64 (v : Int) : Prop := -9223372036854775808 ≤ v ∧ v ≤ 9223372036854775807
theorem i64_2 {x y : Int} (hx : I64 x) (hy : I64 y) : ∀ v ∈ [x, y], -9223372036854775808 ≤ v ∧ v ≤ 9223372036854775807 := by
  intro v hv
  simp only [List.mem_cons, List.not_mem_nil, or_false] at hv
  rcases hv with rfl | rfl
  · exact hx
  · exact hy
theorem i64_4 {x y z u : Int} (hx : I64 x) (hy : I64 y) (hz : I64 z) (hu : I64 u) : ∀ v ∈ [x, y, z, u], -9223372036854775808 ≤ v ∧ v ≤ 9223372036854775807 := by
  intro v hv
  simp only [List.mem_cons, List.not_mem_nil, or_false] at hv
  rcases hv with rfl | rfl | rfl | rfl
  · exact hx
  · exact hy
  · exact hz
  · exact hu
theorem near4 (m x y z u : Int) (hx : I64 x) (hy : I64 y) (hz : I64 z) (hu : I64 u) (m0 : 0 ≤ m) (m1 : m ≤ 1000000000) (q : Bool) (hq : [x, y, z, u].all (nr m) = q) (b : Nat) (w : World) (B : Blk w b (iA [x, y, z, u]) 3) :
    Calls Try.prog 43 #[.int .i64 m, .slice (some ⟨b, 0, none⟩) 4 4] w fun e w' => e = .returned (.bool q) ∧ w = w' := by
  rw [← hq]
  exact near_list [x, y, z, u] m _ b 0 4 w (by simp) m0 m1 (Lib.hid (B.ints (i64_4 hx hy hz hu)))
theorem near2 (m x y : Int) (hx : I64 x) (hy : I64 y) (m0 : 0 ≤ m) (m1 : m ≤ 1000000000) (q : Bool) (hq : [x, y].all (nr m) = q) (b : Nat) (w : World) (B : Blk w b (iA [x, y]) 3) :
    Calls Try.prog 43 #[.int .i64 m, .slice (some ⟨b, 0, none⟩) 2 2] w fun e w' => e = .returned (.bool q) ∧ w = w' := by
  rw [← hq]
  exact near_list [x, y] m _ b 0 2 w (by simp) m0 m1 (Lib.hid (B.ints (i64_2 hx hy)))
set_option maxHeartbeats 1000000 in
theorem rightrect_any (l r t b : Int) (w : World) (hl : I64 l) (hr : I64 r) (ht : I64 t) (hb : I64 b) :
    Calls Try.prog 17 #[.agg #[.int .i64 l, .int .i64 r, .int .i64 t, .int .i64 b]] w fun e w' => e = .returned (.bool (rectOk l r t b)) ∧ Below w.heap.size w w' := by
  obtain ⟨q, hq⟩ : ∃ q, [l, r, t, b].all (nr 1048576) = q := ⟨_, rfl⟩
  have HN := Lib.hid (fun w g B => near4 1048576 l r t b hl hr ht hb (by omega) (by omega) q hq g w B)
  have HR : Hid (rectOk l r t b = (q && decide (l ≤ r) && decide (t ≤ b))) := Lib.hid (by unfold rectOk; rw [hq])
  rw [HR.out]
  clear hq hl hr ht hb HR
  cases q
  all_goals
    go_enter Try.func17, Try.ntmps17
    go_wp2_with (first
      | (refine wl_box 25 _ _ rfl rfl rfl ?_; intro W0 b0 B0 l0 k0; have c0 : W0.cell? ⟨b0, 0, none⟩ = some (.int .i64 l) := B0.cell 0; have c1 : W0.cell? ⟨b0, 1, none⟩ = some (.int .i64 r) := B0.cell 1; have c2 : W0.cell? ⟨b0, 2, none⟩ = some (.int .i64 t) := B0.cell 2; have c3 : W0.cell? ⟨b0, 3, none⟩ = some (.int .i64 b) := B0.cell 3)
      | (refine wlg_slice 82 3 4 _ _ (ints4_run l r t b) _ rfl rfl rfl ?_; intro W1 b1 B1 l1 k1; have B2 := B0.keep k1; have d0 : W1.cell? ⟨b0, 0, none⟩ = some (.int .i64 l) := B2.cell 0; have d1 : W1.cell? ⟨b0, 1, none⟩ = some (.int .i64 r) := B2.cell 1; have d2 : W1.cell? ⟨b0, 2, none⟩ = some (.int .i64 t) := B2.cell 2; have d3 : W1.cell? ⟨b0, 3, none⟩ = some (.int .i64 b) := B2.cell 3)
      | (go_at_call 43; refine (HN.out _ _ B1).mono ?_; rintro e w2 ⟨rfl, rfl⟩))
    all_goals (go_ret; exact ⟨ret_bool (by simp; try omega), bq_trans k0 k1⟩)
set_option maxHeartbeats 1000000 in
theorem rightmatrix_any (a b c d x y : Int) (w : World) (ha : I64 a) (hb : I64 b) (hc : I64 c) (hd : I64 d) (hx : I64 x) (hy : I64 y) :
    Calls Try.prog 18 #[.agg #[.int .i64 a, .int .i64 b, .int .i64 c, .int .i64 d, .int .i64 x, .int .i64 y]] w fun e w' => e = .returned (.bool (matOk a b c d x y)) ∧ Below w.heap.size w w' := by
  obtain ⟨q, hq⟩ : ∃ q, [a, b, c, d].all (nr 4194304) = q := ⟨_, rfl⟩
  obtain ⟨p, hp⟩ : ∃ p, [x, y].all (nr 1048576) = p := ⟨_, rfl⟩
  have HN := Lib.hid (fun w g B => near4 4194304 a b c d ha hb hc hd (by omega) (by omega) q hq g w B)
  have HP := Lib.hid (fun w g B => near2 1048576 x y hx hy (by omega) (by omega) p hp g w B)
  have HR : Hid (matOk a b c d x y = (q && p)) := Lib.hid (by unfold matOk; rw [hq, hp])
  rw [HR.out]
  clear hq hp ha hb hc hd hx hy HR
  cases q
  · go_enter Try.func18, Try.ntmps18
    go_wp2_with (first
      | (refine wl_box 27 _ _ rfl rfl rfl ?_; intro W0 b0 B0 l0 k0; have c0 : W0.cell? ⟨b0, 0, none⟩ = some (.int .i64 a) := B0.cell 0; have c1 : W0.cell? ⟨b0, 1, none⟩ = some (.int .i64 b) := B0.cell 1; have c2 : W0.cell? ⟨b0, 2, none⟩ = some (.int .i64 c) := B0.cell 2; have c3 : W0.cell? ⟨b0, 3, none⟩ = some (.int .i64 d) := B0.cell 3; have c4 : W0.cell? ⟨b0, 4, none⟩ = some (.int .i64 x) := B0.cell 4; have c5 : W0.cell? ⟨b0, 5, none⟩ = some (.int .i64 y) := B0.cell 5)
      | (refine wlg_slice 82 3 4 _ _ (ints4_run a b c d) _ rfl rfl rfl ?_; intro W1 b1 B1 l1 k1)
      | (go_at_call 43; refine (HN.out _ _ B1).mono ?_; rintro e w2 ⟨rfl, rfl⟩))
    go_ret; exact ⟨ret_bool rfl, bq_trans k0 k1⟩
  · go_enter Try.func18, Try.ntmps18
    go_wp2_with (first
      | (refine wl_box 27 _ _ rfl rfl rfl ?_; intro W0 b0 B0 l0 k0; have c0 : W0.cell? ⟨b0, 0, none⟩ = some (.int .i64 a) := B0.cell 0; have c1 : W0.cell? ⟨b0, 1, none⟩ = some (.int .i64 b) := B0.cell 1; have c2 : W0.cell? ⟨b0, 2, none⟩ = some (.int .i64 c) := B0.cell 2; have c3 : W0.cell? ⟨b0, 3, none⟩ = some (.int .i64 d) := B0.cell 3; have c4 : W0.cell? ⟨b0, 4, none⟩ = some (.int .i64 x) := B0.cell 4; have c5 : W0.cell? ⟨b0, 5, none⟩ = some (.int .i64 y) := B0.cell 5)
      | (refine wlg_slice 82 3 4 _ _ (ints4_run a b c d) _ rfl rfl rfl ?_; intro W1 b1 B1 l1 k1; have B2 := B0.keep k1; have d0 : W1.cell? ⟨b0, 0, none⟩ = some (.int .i64 a) := B2.cell 0; have d1 : W1.cell? ⟨b0, 1, none⟩ = some (.int .i64 b) := B2.cell 1; have d2 : W1.cell? ⟨b0, 2, none⟩ = some (.int .i64 c) := B2.cell 2; have d3 : W1.cell? ⟨b0, 3, none⟩ = some (.int .i64 d) := B2.cell 3; have d4 : W1.cell? ⟨b0, 4, none⟩ = some (.int .i64 x) := B2.cell 4; have d5 : W1.cell? ⟨b0, 5, none⟩ = some (.int .i64 y) := B2.cell 5)
      | (refine wlg_slice 82 3 2 _ _ (ints2_run x y) _ rfl rfl rfl ?_; intro W3 b3 B3 l3 k3)
      | (go_at_call 43; refine (HP.out _ _ B3).mono ?_; rintro e w4 ⟨rfl, rfl⟩)
      | (go_at_call 43; refine (HN.out _ _ B1).mono ?_; rintro e w2 ⟨rfl, rfl⟩))
    go_ret; exact ⟨ret_bool (by simp), bq_trans (bq_trans k0 k1) k3⟩
set_option maxHeartbeats 1000000 in
theorem rightcx_any (m0 m1 m2 m3 d0 d1 d2 d3 : Int) (w : World) (h0 : I64 m0) (h1 : I64 m1) (h2 : I64 m2) (h3 : I64 m3) (g0 : I64 d0) (g1 : I64 d1) (g2 : I64 d2) (g3 : I64 d3) :
    Calls Try.prog 19 #[.agg (iA [m0, m1, m2, m3, d0, d1, d2, d3])] w fun e w' => e = .returned (.bool (cxOk [m0, m1, m2, m3] [d0, d1, d2, d3])) ∧ Below w.heap.size w w' := by
  obtain ⟨q, hq⟩ : ∃ q, [m0, m1, m2, m3].all (nr 512) = q := ⟨_, rfl⟩
  obtain ⟨p, hp⟩ : ∃ p, [d0, d1, d2, d3].all (nr 255) = p := ⟨_, rfl⟩
  have HN : Hid (∀ w g (B : Blk w g (iA [m0, m1, m2, m3, d0, d1, d2, d3]) 30), Calls Try.prog 43 #[.int .i64 512, .slice (some ⟨g, 0, none⟩) 4 4] w fun e w' => e = .returned (.bool q) ∧ w = w') := Lib.hid fun w g B => by
    rw [← hq]
    exact near_list [m0, m1, m2, m3] 512 _ g 0 4 w (by simp) (by omega) (by omega) (Lib.hid (B.part 0 rfl (i64_4 h0 h1 h2 h3)))
  have HP : Hid (∀ w g (B : Blk w g (iA [m0, m1, m2, m3, d0, d1, d2, d3]) 30) (_ : True), Calls Try.prog 43 #[.int .i64 255, .slice (some ⟨g, 4, none⟩) 4 4] w fun e w' => e = .returned (.bool p) ∧ w = w') := Lib.hid fun w g B _ => by
    rw [← hp]
    exact near_list [d0, d1, d2, d3] 255 _ g 4 4 w (by simp) (by omega) (by omega) (Lib.hid (B.part 4 rfl (i64_4 g0 g1 g2 g3)))
  have HR : Hid (cxOk [m0, m1, m2, m3] [d0, d1, d2, d3] = (q && p)) := Lib.hid (by unfold cxOk; rw [hq, hp])
  rw [HR.out]
  clear hq hp h0 h1 h2 h3 g0 g1 g2 g3 HR
  cases q
  · go_enter Try.func19, Try.ntmps19
    go_wp2_with (first
      | (refine wl_box 30 _ _ rfl rfl rfl ?_; intro W0 b0 B0 l0 k0)
      | (go_at_call 43; refine (HN.out _ _ B0).mono ?_; rintro e w2 ⟨rfl, rfl⟩))
    go_ret; exact ⟨ret_bool rfl, k0⟩
  · go_enter Try.func19, Try.ntmps19
    go_wp2_with (first
      | (refine wl_box 30 _ _ rfl rfl rfl ?_; intro W0 b0 B0 l0 k0)
      | (go_at_call 43; refine (HP.out _ _ B0 seen).mono ?_; rintro e w4 ⟨rfl, rfl⟩)
      | (go_at_call 43; refine (HN.out _ _ B0).mono ?_; rintro e w2 ⟨rfl, rfl⟩; have seen := True.intro))
    go_ret; exact ⟨ret_bool (by simp), k0⟩
theorem run_min4 {P : Program} (w : World) (ts : Array TypeId) (t : TypeId) (k k1 k2 k3 : IntKind) (x y z u : Int) :
    (Builtin.min_ ts t #[.int k x, .int k1 y, .int k2 z, .int k3 u]).run P w = .ok (.int k (min (min (min x y) z) u)) w := by
  have e : ∀ x y : Int, (if y < x then y else x) = min x y := by
    intro x y
    rw [Int.min_def]
    split <;> split <;> omega
  simp [Builtin.min_, Builtin.min2, e]
attribute [local go_sem high] run_min4
set_option maxHeartbeats 1000000 in
theorem rightrgba_any (r g b a : Int) (w : World) (hr : I64 r) (hg : I64 g) (hb : I64 b) (ha : I64 a) :
    Calls Try.prog 20 #[.agg #[.int .i64 r, .int .i64 g, .int .i64 b, .int .i64 a]] w fun e w' => e = .returned (.bool (rgbaOk r g b a)) ∧ Below w.heap.size w w' := by
  obtain ⟨q, hq⟩ : ∃ q, [r, g, b, a].all (nr 255) = q := ⟨_, rfl⟩
  have HN := Lib.hid (fun w z B => near4 255 r g b a hr hg hb ha (by omega) (by omega) q hq z w B)
  have HR : Hid (rgbaOk r g b a = (q && decide (0 ≤ r) && decide (0 ≤ g) && decide (0 ≤ b) && decide (0 ≤ a))) := Lib.hid (by unfold rgbaOk; rw [hq])
  rw [HR.out]
  clear hq hr hg hb ha HR
  go_enter Try.func20, Try.ntmps20
  go_wp2_with (first
    | (refine wl_box 32 _ _ rfl rfl rfl ?_; intro W0 b0 B0 l0 k0; have c0 : W0.cell? ⟨b0, 0, none⟩ = some (.int .i64 r) := B0.cell 0; have c1 : W0.cell? ⟨b0, 1, none⟩ = some (.int .i64 g) := B0.cell 1; have c2 : W0.cell? ⟨b0, 2, none⟩ = some (.int .i64 b) := B0.cell 2; have c3 : W0.cell? ⟨b0, 3, none⟩ = some (.int .i64 a) := B0.cell 3)
    | (refine wlg_slice 82 3 4 _ _ (ints4_run r g b a) _ rfl rfl rfl ?_; intro W1 b1 B1 l1 k1; have B2 := B0.keep k1; have d0 : W1.cell? ⟨b0, 0, none⟩ = some (.int .i64 r) := B2.cell 0; have d1 : W1.cell? ⟨b0, 1, none⟩ = some (.int .i64 g) := B2.cell 1; have d2 : W1.cell? ⟨b0, 2, none⟩ = some (.int .i64 b) := B2.cell 2; have d3 : W1.cell? ⟨b0, 3, none⟩ = some (.int .i64 a) := B2.cell 3))
  refine (HN.out _ _ B1).mono ?_
  rintro e w2 ⟨rfl, rfl⟩
  clear HN B0 B1 B2 c0 c1 c2 c3
  cases q
  all_goals
    go_wp2
    all_goals (go_ret; exact ⟨ret_bool (by rw [Bool.eq_iff_iff]; simp; try omega), bq_trans k0 k1⟩)
end Go.Proofs.Ytfaipbdkkkhacaa
/- Layer 7: one bit, numbers behind their width, a body behind a writer. -/
namespace Go.Proofs.Ytfaipbdkkkhacaa
open Go.RowKit
set_option linter.unusedVariables false

theorem size23 : (Try.prog.info? 23).map (·.size) = some 2 := by kernel_rfl
theorem zero23 (w : World) : (zeroValue 23).run Try.prog w = .ok (.agg #[.string ⟨#[]⟩, .int .i64 0]) w := Try.zeroValue23 w
def wrA (fs : List (Nat × Nat)) : Array Value := #[.string (bs (F.bys fs)), .int .i64 (F.fr fs : Int)]
theorem wrA_size (fs : List (Nat × Nat)) : (wrA fs).size = 2 := rfl
theorem wrA_one (fs : List (Nat × Nat)) : (wrA fs).all (·.oneCell') = true := by kernel_rfl
/-- what the writer of a field writes, where it fits -/
theorem putplain_bys (fs : List (Nat × Nat)) (v n : Nat) (w : World) (h : F.ok fs) (hl : F.len fs ≤ 1000000) (hn : n ≤ 31) (hv : v < B.P2 n) :
    Calls Try.prog 61 #[.agg (wrA fs), .int .i64 v, .int .i64 n] w fun e w' => e = .returned (.tuple #[.agg (wrA (fs ++ [(v, n)])), .int .i64 0]) ∧ Below w.heap.size w w' := by
  have hp := putplain_any (bs (F.bys fs)) (F.fr fs : Int) (v : Int) (n : Int) w (by rw [bs_size, F.bys_len]; omega)
  rw [if_pos (by simp [ppOk]; omega), Int.toNat_natCast, Int.toNat_natCast, F.ppR_bys h hv] at hp
  exact hp
theorem putsigned_bys (fs : List (Nat × Nat)) (v : Int) (n : Nat) (w : World) (h : F.ok fs) (hl : F.len fs ≤ 1000000) (hn : n ≤ 31) (hv : wd v ≤ n) (hb : I64 v) :
    Calls Try.prog 62 #[.agg (wrA fs), .int .i64 v, .int .i64 n] w fun e w' => e = .returned (.tuple #[.agg (wrA (fs ++ [(sgU v n, n)])), .int .i64 0]) ∧ Below w.heap.size w w' := by
  have hp := putsigned_any (bs (F.bys fs)) (F.fr fs : Int) v (n : Int) w (by rw [bs_size, F.bys_len]; omega) hb.1 hb.2
  rw [if_pos (by simp [psOk]; omega), Int.toNat_natCast, F.ppR_bys h (sgU_lt v n hb.1 hb.2 hn hv).1] at hp
  exact hp
def b01 (b : Bool) : Nat := if b then 1 else 0
theorem b01_lt (b : Bool) : b01 b < B.P2 1 := by cases b <;> decide
set_option maxHeartbeats 1000000 in
theorem putbit_any (fs : List (Nat × Nat)) (q : Bool) (w : World) (h : F.ok fs) (hl : F.len fs ≤ 1000000) :
    Calls Try.prog 40 #[.agg (wrA fs), .bool q] w fun e w' => e = .returned (.agg (wrA (fs ++ [(b01 q, 1)]))) ∧ Below w.heap.size w w' := by
  have HP := Lib.hid (fun w => putplain_bys fs (b01 q) 1 w h hl (by omega) (b01_lt q))
  clear h hl
  cases q
  all_goals
    go_enter Try.func40, Try.ntmps40
    go_wp2_with (first
      | (refine wl_box 23 _ _ rfl rfl rfl ?_; intro W0 b0 B0 l0 k0)
      | (refine wl_alloc 23 _ zero23 rfl rfl ?_; intro W1 b1 B1 l1 k1; have B2 := B0.keep k1)
      | (refine wl_load 23 2 _ Try.underlying23 rfl size23 _ rfl rfl _ rfl _ _ B2 (wrA_size _) ?_)
      | (go_at_call 61; refine (HP.out _).mono ?_; rintro e w2 ⟨rfl, hb2⟩; have B3 := B2.keep hb2; have B4 := B1.keep hb2)
      | (refine wl_store 23 2 size23 _ _ rfl rfl _ rfl _ rfl _ _ B3 (wrA_size _) (wrA_size _) (wrA_one _) ?_; intro W5 B5 T5)
      | (refine wl_load 23 2 _ Try.underlying23 rfl size23 _ rfl rfl _ rfl _ _ B5 (wrA_size _) ?_)
      | (refine wl_store 23 2 size23 _ _ rfl rfl _ rfl _ rfl _ _ (T5.blk B4 (by have := B0.lt; omega)) rfl (wrA_size _) (wrA_one _) ?_; intro W6 B6 T6))
    exact post_cell Try.underlying23 rfl size23 Try.results40 B6 (wrA_size _) rfl rfl ⟨rfl, T6.below (T5.below (bq_trans (bq_trans k0 k1) hb2) l0) (by have := k0.size; omega)⟩
theorem width_ints (zs : List Int) (a : Option Addr) (b o c : Nat) (w : World) (hl : zs.length ≤ 1000000) (ha : Ints w zs a b o) :
    Calls Try.prog 35 #[.slice a zs.length c] w fun e w' => e = .returned (.int .i64 (mxW zs : Int)) ∧ w = w' :=
  width_list zs a b o c w hl (Lib.hid ha.1) (Lib.hid ha.2.1) (Lib.hid ha.2.2)
theorem nums_step (fs : List (Nat × Nat)) (h : Nat) (l : List Int) (k : Nat) (hk : k < l.length) : fs ++ (F.nums h l).take (k + 1) ++ [(sgU l[k] (mxW l), mxW l)] = fs ++ (F.nums h l).take (k + 1 + 1) := by
  rw [List.append_assoc, ← F.nums_take h l k hk]
theorem len_take_le (fs gs : List (Nat × Nat)) (k : Nat) : F.len (fs ++ gs.take k) ≤ F.len fs + F.len gs := by
  have h := F.len_app (gs.take k) (gs.drop k)
  rw [List.take_append_drop] at h
  rw [F.len_app]
  omega
def PnRel (w : World) (fs : List (Nat × Nat)) (h : Nat) (l : List Int) (b0 b1 : Nat) (i : Value) (wr : World) : Prop :=
  ∃ k : Nat, k ≤ l.length ∧ i = .int .i64 k ∧ Blk wr b0 (wrA (fs ++ (F.nums h l).take (k + 1))) 23 ∧ Blk wr b1 #[.string ⟨#[]⟩, .int .i64 0] 23 ∧ Below w.heap.size w wr
set_option maxHeartbeats 2000000 in
theorem putnumbers_any (fs : List (Nat × Nat)) (h : Nat) (l : List Int) (a : Option Addr) (b o c : Nat) (w : World) (hf : F.ok fs) (hl : F.len fs + F.len (F.nums h l) ≤ 1000000) (hh : h ≤ 31) (h1 : mxW l < B.P2 h) (h2 : mxW l ≤ 31) (hn : l.length ≤ 1000000) (ha : Hid (Ints w l a b o)) :
    Calls Try.prog 39 #[.agg (wrA fs), .int .i64 h, .slice a l.length c] w fun e w' => e = .returned (.agg (wrA (fs ++ F.nums h l))) ∧ Below w.heap.size w w' := by
  have hok : F.ok (F.nums h l) := F.nums_ok h1 h2 fun v hv => by
    obtain ⟨i, hi, rfl⟩ := List.getElem_of_mem hv
    exact ha.out.2.1 i hi
  have HW := Lib.hid (fun W (k : Below w.heap.size w W) => width_ints l a b o c W hn (ha.out.keep k))
  have HP := Lib.hid (fun W => putplain_bys fs (mxW l) h W hf (by omega) hh h1)
  have HS : Hid (∀ k (hk : k < l.length) W, Calls Try.prog 62 #[.agg (wrA (fs ++ (F.nums h l).take (k + 1))), .int .i64 l[k], .int .i64 (mxW l)] W fun e w' => e = .returned (.tuple #[.agg (wrA (fs ++ (F.nums h l).take (k + 1 + 1))), .int .i64 0]) ∧ Below W.heap.size W w') := Lib.hid fun k hk W => by
    have hb := ha.out.2.1 k hk
    have h3 := len_take_le fs (F.nums h l) (k + 1)
    rw [← nums_step fs h l k hk]
    exact putsigned_bys _ l[k] (mxW l) W (F.ok_app hf (F.ok_take hok _)) (by omega) h2 (F.mxW_mem (List.getElem_mem hk)) hb
  have HE : Hid (fs ++ F.nums h l = fs ++ (F.nums h l).take (l.length + 1)) := Lib.hid (by rw [F.nums_all])
  have H0 : Hid (fs ++ [(mxW l, h)] = fs ++ (F.nums h l).take (0 + 1)) := Lib.hid (by unfold F.nums; rfl)
  rw [H0.out] at HP
  rw [HE.out]
  clear hok hf hl hh h1 HE H0
  generalize mxW l = m at *
  go_enter Try.func39, Try.ntmps39
  go_wp2_with (first
    | (refine wl_box 23 _ _ rfl rfl rfl ?_; intro W0 b0 B0 l0 k0)
    | (refine wl_alloc 23 _ zero23 rfl rfl ?_; intro W1 b1 B1 l1 k1; have B2 := B0.keep k1)
    | (go_at_call 35; refine (HW.out _ (bq_trans k0 k1)).mono ?_; rintro e w1 ⟨rfl, rfl⟩)
    | (refine wl_load 23 2 _ Try.underlying23 rfl size23 _ rfl rfl _ rfl _ _ B2 (wrA_size _) ?_)
    | (go_at_call 61; refine (HP.out _).mono ?_; rintro e w2 ⟨rfl, hb2⟩; have B3 := B2.keep hb2; have B4 := B1.keep hb2)
    | (refine wl_store 23 2 size23 _ _ rfl rfl _ rfl _ rfl _ _ B3 (wrA_size _) (wrA_size _) (wrA_one _) ?_; intro W5 B5 T5))
  have n01 : b0 ≠ b1 := by have := B0.lt; omega
  have g0 : w.heap.size ≤ b0 := l0
  have g1 : w.heap.size ≤ b1 := by have := k0.size; omega
  have C1 := T5.blk B4 (Ne.symm n01)
  have HB := Lib.hid (T5.below (bq_trans (bq_trans k0 k1) hb2) l0)
  clear B0 B1 B2 B3 B4 T5 k0 k1 hb2 l0 l1 HW HP
  go_loopw [21] (fun i wr => PnRel w fs h l b0 b1 i wr) (fun i _ => l.length - (intOf i).toNat)
  case atStart => exact ⟨0, by omega, rfl, B5, C1, HB.out⟩
  case round =>
    obtain ⟨k, hk, rfl, D0, D1, hbel⟩ := hrel
    have HB2 := Lib.hid hbel
    clear hbel B5 C1 HB
    by_cases hlt : k < l.length
    · obtain ⟨rfl, z0, z1, hcell⟩ := ha.out.at HB2.out k hlt
      have HS2 := Lib.hid (HS.out k hlt)
      generalize l[k] = z at *
      go_wp2_with (first
        | (refine wl_load 23 2 _ Try.underlying23 rfl size23 _ rfl rfl _ rfl _ _ D0 (wrA_size _) ?_)
        | (go_at_call 62; refine (HS2.out _).mono ?_; rintro e w7 ⟨rfl, hb7⟩; have D2 := D0.keep hb7; have D3 := D1.keep hb7)
        | (refine wl_store 23 2 size23 _ _ rfl rfl _ rfl _ rfl _ _ D2 (wrA_size _) (wrA_size _) (wrA_one _) ?_; intro W8 B8 T8))
      have E1 := T8.blk D3 (Ne.symm n01)
      have HB3 := Lib.hid (T8.below (bq_trans HB2.out hb7) g0)
      go_roundw
      case rel => exact ⟨k + 1, by omega, by go_num, B8, E1, HB3.out⟩
      case measure => simp [intOf]; omega
    · obtain rfl : k = l.length := by omega
      go_wp2_with (first
        | (refine wl_load 23 2 _ Try.underlying23 rfl size23 _ rfl rfl _ rfl _ _ D0 (wrA_size _) ?_)
        | (refine wl_store 23 2 size23 _ _ rfl rfl _ rfl _ rfl _ _ D1 rfl (wrA_size _) (wrA_one _) ?_; intro W8 B8 T8))
      exact post_cell Try.underlying23 rfl size23 Try.results39 B8 (wrA_size _) rfl rfl ⟨rfl, T8.below HB2.out g1⟩
theorem behind_any (s t : ByteArray) (f g : Int) (w : World) (hs : s.size ≤ 1099511627776) (ht : t.size ≤ 1099511627776) :
    Calls Try.prog 38 #[.agg #[.string s, .int .i64 f], .agg #[.string t, .int .i64 g]] w fun e w' => e = .returned (.agg #[.string (s ++ t), .int .i64 0]) ∧ Below w.heap.size w w' := by
  have HP := Lib.hid (fun w => putbytes_any s t f w hs ht)
  clear hs ht
  go_enter Try.func38, Try.ntmps38
  go_wp2_with (first
    | (refine wl_box 23 _ _ rfl rfl (show _ = Value.agg #[.string s, .int .i64 f] from rfl) ?_; intro W0 b0 B0 l0 k0)
    | (refine wl_box 23 _ _ rfl rfl (show _ = Value.agg #[.string t, .int .i64 g] from rfl) ?_; intro W1 b1 B1 l1 k1)
    | (refine wl_alloc 23 _ zero23 rfl rfl ?_; intro W2 b2 B2 l2 k2; have B3 := (B0.keep k1).keep k2; have B4 := B1.keep k2; have c4 : W2.cell? ⟨b1, 0, none⟩ = some (.string t) := B4.cell 0)
    | (refine wl_load 23 2 _ Try.underlying23 rfl size23 _ rfl rfl _ rfl _ _ B3 rfl ?_)
    | (go_at_call 41; refine (HP.out _).mono ?_; rintro e w5 ⟨rfl, hb5⟩; have B5 := B2.keep hb5)
    | (refine wl_store 23 2 size23 _ _ rfl rfl _ rfl _ rfl _ _ B5 rfl rfl (by kernel_rfl) ?_; intro W6 B6 T6))
  exact post_cell Try.underlying23 rfl size23 Try.results38 B6 rfl rfl rfl ⟨rfl, T6.below (bq_trans (bq_trans (bq_trans k0 k1) k2) hb5) (by have := k0.size; have := k1.size; omega)⟩
end Go.Proofs.Ytfaipbdkkkhacaa
/- Layer 7: a rectangle behind a writer. -/
namespace Go.Proofs.Ytfaipbdkkkhacaa
open Go.RowKit
set_option linter.unusedVariables false

theorem size25 : (Try.prog.info? 25).map (·.size) = some 4 := by kernel_rfl
theorem wd_small (v : Int) (n : Nat) (hn : n ≤ 31) (h0 : -(B.P2 n : Int) ≤ v) (h1 : v < B.P2 n) : wd v ≤ n + 1 := by
  have hp : B.P2 n ≤ 2147483648 := B.P2_le (b := 31) hn
  by_cases h : v = 0
  · subst h; unfold wd; simp
  · exact (wd_iff v n h (by omega) (by omega) (by omega)).2 ⟨h0, h1⟩
theorem nr_wd {m v : Int} {n : Nat} (h : nr m v = true) (hn : n ≤ 31) (hm : m < B.P2 n) : wd v ≤ n + 1 := by
  have := (nr_iff m v).1 h
  exact wd_small v n hn (by omega) (by omega)
theorem all_wd {m : Int} {l : List Int} {n : Nat} (h : l.all (nr m) = true) (hn : n ≤ 31) (hm : m < B.P2 n) : mxW l ≤ n + 1 :=
  F.mxW_le fun v hv => nr_wd (List.all_eq_true.1 h v hv) hn hm
theorem rect_wd {l r t b : Int} (h : rectOk l r t b = true) : mxW [l, r, t, b] ≤ 22 := by
  unfold rectOk at h
  rw [Bool.and_eq_true, Bool.and_eq_true] at h
  exact all_wd (n := 21) h.1.1 (by omega) (by decide)
theorem rect_fit {l r t b : Int} (h : rectOk l r t b = true) : I64 l ∧ I64 r ∧ I64 t ∧ I64 b := by
  unfold rectOk at h
  rw [Bool.and_eq_true, Bool.and_eq_true] at h
  have h1 := h.1.1
  simp only [List.all_cons, List.all_nil, Bool.and_true, Bool.and_eq_true, nr_iff] at h1
  unfold I64
  omega
def rectF (l r t b : Int) : List (Nat × Nat) := F.nums 5 [l, r, t, b]
theorem rectF_len (l r t b : Int) : F.len (rectF l r t b) = 5 + 4 * mxW [l, r, t, b] := F.nums_len 5 [l, r, t, b]
theorem rectF_ok {l r t b : Int} (h : rectOk l r t b = true) : F.ok (rectF l r t b) := by
  have hw := rect_wd h
  obtain ⟨h1, h2, h3, h4⟩ := rect_fit h
  exact F.nums_ok (Nat.lt_of_le_of_lt hw (by decide)) (by omega) (i64_4 h1 h2 h3 h4)
theorem putrect_bad (s : ByteArray) (f l r t b : Int) (w : World) (hl : I64 l) (hr : I64 r) (ht : I64 t) (hb : I64 b) (h : rectOk l r t b = false) :
    Calls Try.prog 9 #[.agg #[.string s, .int .i64 f], .agg #[.int .i64 l, .int .i64 r, .int .i64 t, .int .i64 b]] w fun e w' => e = .returned errW ∧ Below w.heap.size w w' := by
  have HR := fun w => rightrect_any l r t b w hl hr ht hb
  rw [h] at HR
  have HR2 := Lib.hid HR
  clear HR h hl hr ht hb
  go_enter Try.func9, Try.ntmps9
  go_wp2_with (first
    | (refine wl_box 23 _ _ rfl rfl (show _ = Value.agg #[.string s, .int .i64 f] from rfl) ?_; intro W0 b0 B0 l0 k0)
    | (refine wl_box 25 _ _ rfl rfl (show _ = Value.agg #[.int .i64 l, .int .i64 r, .int .i64 t, .int .i64 b] from rfl) ?_; intro W1 b1 B1 l1 k1)
    | (refine wl_alloc 23 _ zero23 rfl rfl ?_; intro W2 b2 B2 l2 k2; have B3 := B1.keep k2)
    | (refine wl_load 25 4 _ Try.underlying25 rfl size25 _ rfl rfl _ rfl _ _ B3 rfl ?_)
    | (go_at_call 17; refine (HR2.out _).mono ?_; rintro e w4 ⟨rfl, hb4⟩; have B4 := B2.keep hb4)
    | (refine wl_store 23 2 size23 _ _ rfl rfl _ rfl _ rfl _ _ B4 rfl rfl (by kernel_rfl) ?_; intro W6 B6 T6))
  exact post_cell_tmp (v := .int .i64 1) Try.underlying23 rfl size23 Try.results9 B6 rfl rfl rfl rfl ⟨rfl, T6.below (bq_trans (bq_trans (bq_trans k0 k1) k2) hb4) (by have := k0.size; have := k1.size; omega)⟩
set_option maxHeartbeats 2000000 in
theorem putrect_ok (s : ByteArray) (f l r t b : Int) (w : World) (hs : s.size ≤ 1000000) (h : rectOk l r t b = true) :
    Calls Try.prog 9 #[.agg #[.string s, .int .i64 f], .agg #[.int .i64 l, .int .i64 r, .int .i64 t, .int .i64 b]] w fun e w' => e = .returned (.tuple #[.agg #[.string (s ++ bs (F.bys (rectF l r t b))), .int .i64 0], .int .i64 0]) ∧ Below w.heap.size w w' := by
  obtain ⟨hl, hr, ht, hb⟩ := rect_fit h
  have hw := rect_wd h
  have HR := fun w => rightrect_any l r t b w hl hr ht hb
  rw [h] at HR
  have HR2 := Lib.hid HR
  have HN : Hid (∀ W g w', Below W.heap.size W w' → Blk w' g #[.int .i64 l, .int .i64 r, .int .i64 t, .int .i64 b] 3 →
      Calls Try.prog 39 #[.agg #[.string ⟨#[]⟩, .int .i64 0], .int .i64 5, .slice (some ⟨g, 0, none⟩) 4 4] w' fun e w'' => e = .returned (.agg #[.string (bs (F.bys (rectF l r t b))), .int .i64 (F.fr (rectF l r t b) : Int)]) ∧ Below W.heap.size W w'') := Lib.hid fun W g w' hw' hB =>
    (putnumbers_any [] 5 [l, r, t, b] _ g 0 4 w' F.ok_nil (by rw [F.nums_len]; simp [F.len]; omega) (by omega) (Nat.lt_of_le_of_lt hw (by decide)) (by omega) (by simp) (Lib.hid (Blk.ints (zs := [l, r, t, b]) hB (i64_4 hl hr ht hb)))).mono fun e w'' ⟨h1, h2⟩ => ⟨h1, bq_trans hw' h2⟩
  have HBH : Hid (∀ W w', Below W.heap.size W w' → Calls Try.prog 38 #[.agg #[.string s, .int .i64 f], .agg #[.string (bs (F.bys (rectF l r t b))), .int .i64 (F.fr (rectF l r t b) : Int)]] w' fun e w'' => e = .returned (.agg #[.string (s ++ bs (F.bys (rectF l r t b))), .int .i64 0]) ∧ Below W.heap.size W w'') := Lib.hid fun W w' hw' =>
    (behind_any s (bs (F.bys (rectF l r t b))) f _ w' (by omega) (by rw [bs_size, F.bys_len, rectF_len]; omega)).mono fun e w'' ⟨h1, h2⟩ => ⟨h1, bq_trans hw' h2⟩
  clear HR h hl hr ht hb hw hs
  generalize bs (F.bys (rectF l r t b)) = u at *
  generalize (F.fr (rectF l r t b) : Int) = v at *
  go_enter Try.func9, Try.ntmps9
  go_wp2_with (first
    | (refine wl_box 23 _ _ rfl rfl (show _ = Value.agg #[.string s, .int .i64 f] from rfl) ?_; intro W0 b0 B0 l0 k0)
    | (refine wl_box 25 _ _ rfl rfl (show _ = Value.agg #[.int .i64 l, .int .i64 r, .int .i64 t, .int .i64 b] from rfl) ?_; intro W1 b1 B1 l1 k1)
    | (refine wl_alloc 23 _ zero23 rfl rfl ?_; intro W2 b2 B2 l2 k2; have B3 := B1.keep k2)
    | (refine wl_load 25 4 _ Try.underlying25 rfl size25 _ rfl rfl _ rfl _ _ B3 rfl ?_)
    | (go_at_call 17; refine (HR2.out _).mono ?_; rintro e w4 ⟨rfl, hb4⟩; have B4 := B2.keep hb4; have B5 := B3.keep hb4; have B6 := ((B0.keep k1).keep k2).keep hb4))
  have n02 : b0 < b2 := by have := B0.lt; have := k1.size; omega
  have n12 : b1 < b2 := by have := B1.lt; omega
  have hle : b2 ≤ w4.heap.size := Nat.le_of_lt B4.lt
  have HC : Hid (∀ w', Below b2 w4 w' → w'.cell? ⟨b0, 0, none⟩ = some (.string s) ∧ w'.cell? ⟨b0, 1, none⟩ = some (.int .i64 f) ∧ w'.cell? ⟨b1, 0, none⟩ = some (.int .i64 l) ∧ w'.cell? ⟨b1, 1, none⟩ = some (.int .i64 r) ∧ w'.cell? ⟨b1, 2, none⟩ = some (.int .i64 t) ∧ w'.cell? ⟨b1, 3, none⟩ = some (.int .i64 b)) := Lib.hid fun w' hw' => ⟨(B6.under hw' n02).cell 0, (B6.under hw' n02).cell 1, (B5.under hw' n12).cell 0, (B5.under hw' n12).cell 1, (B5.under hw' n12).cell 2, (B5.under hw' n12).cell 3⟩
  have hd0 : Below w4.heap.size w4 w4.drew := bq_drew (bq_refl w4)
  have HB := Lib.hid (bq_trans (bq_trans (bq_trans k0 k1) k2) hb4)
  have g2 : w.heap.size ≤ b2 := by have := k0.size; have := k1.size; omega
  have HB4 := Lib.hid B4
  clear B0 B1 B2 B3 B4 B5 B6 k0 k1 k2 hb4 l0 l1 l2 HR2
  go_region_held3 (fun w' => w'.cell? ⟨b0, 0, none⟩ = some (.string s) ∧ w'.cell? ⟨b0, 1, none⟩ = some (.int .i64 f) ∧ w'.cell? ⟨b1, 0, none⟩ = some (.int .i64 l) ∧ w'.cell? ⟨b1, 1, none⟩ = some (.int .i64 r) ∧ w'.cell? ⟨b1, 2, none⟩ = some (.int .i64 t) ∧ w'.cell? ⟨b1, 3, none⟩ = some (.int .i64 b)) (first | exact HC.out _ (Below.mono (by first | assumption | exact bq_drew (bq_alloc (bq_refl _) _)) hle) | exact HC.out _ (((Below.mono hb10 hle).setCell (Nat.le_refl _) _).setCell (Nat.le_refl _) _))
    (first
      | (go_at_call 39; refine (HN.out w4 _ _ (by first | assumption | exact bq_drew (bq_alloc (bq_refl _) _)) (Blk.drew (blk_new _ _ _))).mono ?_; rintro e w9 ⟨rfl, hb9⟩)
      | (go_at_call 38; refine (HBH.out w4 _ (by assumption)).mono ?_; rintro e w10 ⟨rfl, hb10⟩; have d0 := (HB4.out.keep hb10).cell 0; have d1 := (HB4.out.keep hb10).cell 1; have f0 := (HB4.out.keep hb10).frozen 0; have f1 := (HB4.out.keep hb10).frozen 1))
  have B9 : Blk ((w10.setCell ⟨b2, 0, none⟩ (.string (s ++ u))).setCell ⟨b2, 1, none⟩ (.int .i64 0)) b2 #[.string (s ++ u), .int .i64 0] 23 := ((HB4.out.keep hb10).set 0 _).set 1 _
  go_wp2
  exact post_cell_tmp (v := .int .i64 0) Try.underlying23 rfl size23 Try.results9 B9 rfl rfl rfl rfl ⟨rfl, bq_set (bq_set (bq_trans HB.out hb10) _ g2 _) _ g2 _⟩
end Go.Proofs.Ytfaipbdkkkhacaa
/- Layer 7: what turns nothing; a matrix behind a writer. -/
namespace Go.Proofs.Ytfaipbdkkkhacaa
open Go.RowKit
set_option linter.unusedVariables false

theorem size27 : (Try.prog.info? 27).map (·.size) = some 6 := by kernel_rfl
theorem zero27 (w : World) : (zeroValue 27).run Try.prog w = .ok (.agg #[.int .i64 0, .int .i64 0, .int .i64 0, .int .i64 0, .int .i64 0, .int .i64 0]) w := Try.zeroValue27 w
theorem same_any (w : World) : Calls Try.prog 36 #[] w fun e w' => e = .returned (.agg #[.int .i64 65536, .int .i64 0, .int .i64 0, .int .i64 65536, .int .i64 0, .int .i64 0]) ∧ Below w.heap.size w w' := by
  go_enter Try.func36, Try.ntmps36
  go_wp2_with (first
    | (refine wl_alloc 27 _ zero27 rfl rfl ?_; intro W1 br Br_1 l1 k1; have gr : w.heap.size ≤ br := l1; have H1 := k1; clear l1 k1)
    | (refine wl_store 27 6 size27 _ _ rfl rfl _ rfl #[.int .i64 65536, .int .i64 0, .int .i64 0, .int .i64 65536, .int .i64 0, .int .i64 0] rfl _ _ Br_1 rfl rfl (by kernel_rfl) ?_; intro W2 Br_2 T2; have H2 := T2.below H1 gr; clear T2 Br_1 H1))
  exact post_cell Try.underlying27 rfl size27 Try.results36 Br_2 rfl rfl rfl ⟨rfl, H2⟩
theorem mat_wd {a b c d x y : Int} (h : matOk a b c d x y = true) : mxW [a, d] ≤ 24 ∧ mxW [b, c] ≤ 24 ∧ mxW [x, y] ≤ 22 ∧ (I64 a ∧ I64 b ∧ I64 c ∧ I64 d ∧ I64 x ∧ I64 y) := by
  unfold matOk at h
  simp only [List.all_cons, List.all_nil, Bool.and_true, Bool.and_eq_true] at h
  obtain ⟨⟨ha, hb, hc, hd⟩, hx, hy⟩ := h
  have e (v : Int) (hv : nr 4194304 v = true) : wd v ≤ 24 ∧ I64 v := by
    refine ⟨nr_wd (n := 23) hv (by omega) (by decide), ?_⟩
    have := (nr_iff _ _).1 hv
    unfold I64
    omega
  have e2 (v : Int) (hv : nr 1048576 v = true) : wd v ≤ 22 ∧ I64 v := by
    refine ⟨nr_wd (n := 21) hv (by omega) (by decide), ?_⟩
    have := (nr_iff _ _).1 hv
    unfold I64
    omega
  refine ⟨F.mxW_le ?_, F.mxW_le ?_, F.mxW_le ?_, (e a ha).2, (e b hb).2, (e c hc).2, (e d hd).2, (e2 x hx).2, (e2 y hy).2⟩
  · intro v hv
    simp only [List.mem_cons, List.not_mem_nil, or_false] at hv
    rcases hv with rfl | rfl
    · exact (e _ ha).1
    · exact (e _ hd).1
  · intro v hv
    simp only [List.mem_cons, List.not_mem_nil, or_false] at hv
    rcases hv with rfl | rfl
    · exact (e _ hb).1
    · exact (e _ hc).1
  · intro v hv
    simp only [List.mem_cons, List.not_mem_nil, or_false] at hv
    rcases hv with rfl | rfl
    · exact (e2 _ hx).1
    · exact (e2 _ hy).1
set_option maxHeartbeats 1000000 in
theorem putmatrix_bad (s : ByteArray) (f a b c d x y : Int) (w : World) (ha : I64 a) (hb : I64 b) (hc : I64 c) (hd : I64 d) (hx : I64 x) (hy : I64 y) (h : matOk a b c d x y = false) :
    Calls Try.prog 10 #[.agg #[.string s, .int .i64 f], .agg #[.int .i64 a, .int .i64 b, .int .i64 c, .int .i64 d, .int .i64 x, .int .i64 y]] w fun e w' => e = .returned errW ∧ Below w.heap.size w w' := by
  have HR := fun w => rightmatrix_any a b c d x y w ha hb hc hd hx hy
  rw [h] at HR
  have HR2 := Lib.hid HR
  clear HR h ha hb hc hd hx hy
  go_enter Try.func10, Try.ntmps10
  go_wp2_with (first
    | (refine wl_box 23 _ _ rfl rfl (show _ = Value.agg #[.string s, .int .i64 f] from rfl) ?_; intro W1 bw Bw_1 l1 k1; have gw : w.heap.size ≤ bw := l1; have H1 := k1; clear l1 k1)
    | (refine wl_box 27 _ _ rfl rfl (show _ = Value.agg #[.int .i64 a, .int .i64 b, .int .i64 c, .int .i64 d, .int .i64 x, .int .i64 y] from rfl) ?_; intro W2 bm Bm_2 l2 k2; have gm : w.heap.size ≤ bm := Nat.le_trans H1.size l2; have nwm : bw ≠ bm := Nat.ne_of_lt (Nat.lt_of_lt_of_le Bw_1.lt l2); have Bw_2 := Bw_1.keep k2; have H2 := bq_trans H1 k2; clear l2 k2 Bw_1 H1)
    | (refine wl_alloc 23 _ zero23 rfl rfl ?_; intro W3 br Br_3 l3 k3; have gr : w.heap.size ≤ br := Nat.le_trans H2.size l3; have nwr : bw ≠ br := Nat.ne_of_lt (Nat.lt_of_lt_of_le Bw_2.lt l3); have nmr : bm ≠ br := Nat.ne_of_lt (Nat.lt_of_lt_of_le Bm_2.lt l3); have Bw_3 := Bw_2.keep k3; have Bm_3 := Bm_2.keep k3; have H3 := bq_trans H2 k3; clear l3 k3 Bw_2 Bm_2 H2)
    | (refine wl_load 27 6 _ Try.underlying27 rfl size27 _ rfl rfl _ rfl _ _ Bm_3 rfl ?_)
    | (go_at_call 18; with_reducible refine (HR2.out _).mono ?_; rintro e W4 ⟨rfl, k4⟩; have Bw_4 := Bw_3.keep k4; have Bm_4 := Bm_3.keep k4; have Br_4 := Br_3.keep k4; have H4 := bq_trans H3 k4; clear k4 Bw_3 Bm_3 Br_3 H3)
    | (refine wl_store 23 2 size23 _ _ rfl rfl _ rfl #[.string ⟨#[]⟩, .int .i64 0] rfl _ _ Br_4 rfl rfl (by kernel_rfl) ?_; intro W5 Br_5 T5; have Bw_5 := T5.blk Bw_4 nwr; have Bm_5 := T5.blk Bm_4 nmr; have H5 := T5.below H4 gr; clear T5 Bw_4 Bm_4 Br_4 H4))
  exact post_cell_tmp (v := .int .i64 1) Try.underlying23 rfl size23 Try.results10 Br_5 rfl rfl rfl rfl ⟨rfl, H5⟩
end Go.Proofs.Ytfaipbdkkkhacaa
