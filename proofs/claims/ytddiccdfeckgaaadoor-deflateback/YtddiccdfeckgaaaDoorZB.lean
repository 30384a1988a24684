import Derived.Test.YtddiccdfeckgaaaDoorZA
import Derived.Deep.AppendLies
import Derived.Deep.MidRow
import Derived.Deep.RegionHeld3
import Derived.Laws.MakeOwn
import Derived.OwnWalk
import Derived.BigRegion
/- Layer 5, plain: packed bytes, unpacked: each step a function of the bytes, the bit that is next and what is there so far; an error is its number. -/
namespace Go.Proofs.YtddiccdfeckgaaaDoor.I
set_option linter.unusedVariables false

/-- n bits from p on, as a number; the bit behind them -/
def num (s : ByteArray) (p n : Nat) : Except Nat (Nat × Nat) := if 8 * s.size < p + n then .error 2 else .ok (nb s p n, p + n)
/-- the symbol whose code stands at p; the bit behind it -/
def sym (zs : List Int) (s : ByteArray) (p : Nat) : Except Nat (Nat × Nat) :=
  if (Hf.nx zs fun m => bt s (p + m)).2.2 = 0 then .ok ((Hf.nx zs fun m => bt s (p + m)).1, p + (Hf.nx zs fun m => bt s (p + m)).2.1) else .error (Hf.nx zs fun m => bt s (p + m)).2.2
theorem num_ok {s : ByteArray} {p n v q : Nat} (h : num s p n = .ok (v, q)) : v = nb s p n ∧ q = p + n ∧ p + n ≤ 8 * s.size := by
  unfold num at h
  split at h
  · cases h
  · injection h with h
    injection h with h1 h2
    exact ⟨h1.symm, h2.symm, by omega⟩
theorem num_err {s : ByteArray} {p n e : Nat} (h : num s p n = .error e) : e = 2 ∧ 8 * s.size < p + n := by
  unfold num at h
  split at h
  · injection h with h
    exact ⟨h.symm, by assumption⟩
  · cases h
theorem sym_ok {zs : List Int} {s : ByteArray} {p v q : Nat} (h : sym zs s p = .ok (v, q)) : ∃ n, Hf.nx zs (fun m => bt s (p + m)) = (v, n, 0) ∧ q = p + n := by
  unfold sym at h
  split at h
  · rename_i h0
    injection h with h
    injection h with h1 h2
    refine ⟨_, Prod.ext h1 (Prod.ext rfl h0), h2.symm⟩
  · cases h
theorem sym_err {zs : List Int} {s : ByteArray} {p e : Nat} (h : sym zs s p = .error e) : e ≠ 0 ∧ (Hf.nx zs fun m => bt s (p + m)).2.2 = e := by
  unfold sym at h
  split at h
  · cases h
  · rename_i h0
    injection h with h
    exact ⟨by rw [← h]; exact h0, h⟩
/-- an answer of Hf.dec: an error with nothing told, or a symbol of the list whose code ends among the bits -/
theorem dec_shape (zs : List Int) (b : Nat → Option Nat) : ∀ (k n c : Nat), n + k ≤ 15 →
    (Hf.dec zs b k n c = (0, 0, 2) ∨ Hf.dec zs b k n c = (0, 0, 4)) ∨ ∃ v m, Hf.dec zs b k n c = (v, m, 0) ∧ n < m ∧ m ≤ n + k ∧ (∃ x, b (m - 1) = some x) ∧ ∃ i, v = Hf.sym zs m i ∧ i < Hf.cn zs m ∨ v = Hf.sym zs m i := by
  intro k
  induction k with
  | zero => intro n c h; exact Or.inl (Or.inr rfl)
  | succ k ih =>
    intro n c h
    rw [Hf.dec]
    split
    · exact Or.inl (Or.inr rfl)
    · cases hb : b n with
      | none => exact Or.inl (Or.inl rfl)
      | some x =>
        simp only []
        split
        · exact Or.inr ⟨_, n + 1, rfl, by omega, by omega, ⟨x, by simpa using hb⟩, _, Or.inr rfl⟩
        · rcases ih (n + 1) (2 * c + x) (by omega) with h1 | ⟨v, m, e1, e2, e3, e4, e5⟩
          · exact Or.inl h1
          · exact Or.inr ⟨v, m, e1, by omega, by omega, e4, e5⟩
theorem sym_lt {zs : List Int} {s : ByteArray} {p v q : Nat} (h : sym zs s p = .ok (v, q)) : p < q ∧ q ≤ 8 * s.size ∧ q ≤ p + 15 := by
  obtain ⟨n, h1, rfl⟩ := sym_ok h
  unfold Hf.nx at h1
  rcases dec_shape zs (fun m => bt s (p + m)) 15 0 0 (by omega) with (h2 | h2) | ⟨v', m, e1, e2, e3, ⟨x, e4⟩, _⟩
  · rw [h2] at h1; cases h1
  · rw [h2] at h1; cases h1
  · rw [e1] at h1
    injection h1 with h3 h4
    injection h4 with h4 h5
    subst h4
    have e4' : bt s (p + (m - 1)) = some x := e4
    unfold bt at e4'
    split at e4'
    · omega
    · cases e4'
theorem sym_errs {zs : List Int} {s : ByteArray} {p e : Nat} (h : sym zs s p = .error e) : e = 2 ∨ e = 4 := by
  obtain ⟨h0, h1⟩ := sym_err h
  unfold Hf.nx at h1
  rcases dec_shape zs (fun m => bt s (p + m)) 15 0 0 (by omega) with (h2 | h2) | ⟨v', m, e1, _⟩
  · rw [h2] at h1; exact Or.inl h1.symm
  · rw [h2] at h1; exact Or.inr h1.symm
  · rw [e1] at h1; exact absurd h1.symm h0

/-- the lengths of copies, by their symbol less 257: the least, and how many bits follow -/
def lenT : List (Nat × Nat) := [(3, 0), (4, 0), (5, 0), (6, 0), (7, 0), (8, 0), (9, 0), (10, 0), (11, 1), (13, 1), (15, 1), (17, 1), (19, 2), (23, 2), (27, 2), (31, 2), (35, 3), (43, 3), (51, 3), (59, 3), (67, 4), (83, 4), (99, 4), (115, 4), (131, 5), (163, 5), (195, 5), (227, 5), (258, 0)]
/-- the distances, by their symbol -/
def dstT : List (Nat × Nat) := [(1, 0), (2, 0), (3, 0), (4, 0), (5, 1), (7, 1), (9, 2), (13, 2), (17, 3), (25, 3), (33, 4), (49, 4), (65, 5), (97, 5), (129, 6), (193, 6), (257, 7), (385, 7), (513, 8), (769, 8), (1025, 9), (1537, 9), (2049, 10), (3073, 10), (4097, 11), (6145, 11), (8193, 12), (12289, 12), (16385, 13), (24577, 13)]
/-- the order of the lengths of the lengths' codes -/
def ordT : List Nat := [16, 17, 18, 0, 8, 7, 9, 6, 10, 5, 11, 4, 12, 3, 13, 2, 14, 1, 15]
def ln (k : Nat) : Nat × Nat := lenT.getD k (0, 0)
def ds (k : Nat) : Nat × Nat := dstT.getD k (0, 0)
def od (k : Nat) : Nat := ordT.getD k 0

/-- n bytes more, each the one that stands far back -/
def cp (far : Nat) : Nat → List UInt8 → List UInt8
  | 0, out => out
  | n + 1, out => cp far n (out ++ [out.getD (out.length - far) 0])
theorem cp_len (far : Nat) : ∀ (n : Nat) (out : List UInt8), (cp far n out).length = out.length + n
  | 0, out => rfl
  | n + 1, out => by rw [cp, cp_len far n]; simp; omega
/-- a copy: k is the symbol less 257 -/
def copy (d : List Int) (s : ByteArray) (most p : Nat) (out : List UInt8) (k : Nat) : Except Nat (Nat × List UInt8) :=
  if 29 ≤ k then .error 3 else
  match num s p (ln k).2 with
  | .error e => .error e
  | .ok (x, p1) =>
    match sym d s p1 with
    | .error e => .error e
    | .ok (j, p2) =>
      if 30 ≤ j then .error 3 else
      match num s p2 (ds j).2 with
      | .error e => .error e
      | .ok (y, p3) =>
        if out.length < (ds j).1 + y then .error 3 else
        if most < out.length + ((ln k).1 + x) then .error 7 else .ok (p3, cp ((ds j).1 + y) ((ln k).1 + x) out)
/-- one symbol: true at the end of a block -/
def one (a d : List Int) (s : ByteArray) (most p : Nat) (out : List UInt8) : Except Nat (Bool × Nat × List UInt8) :=
  match sym a s p with
  | .error e => .error e
  | .ok (n, p1) =>
    if n < 256 then (if out.length < most then .ok (false, p1, out ++ [UInt8.ofNat n]) else .error 7) else
    if n = 256 then .ok (true, p1, out) else
    match copy d s most p1 out (n - 257) with
    | .error e => .error e
    | .ok (p3, o) => .ok (false, p3, o)
theorem copy_lt {d : List Int} {s : ByteArray} {most p k q : Nat} {out o : List UInt8} (h : copy d s most p out k = .ok (q, o)) : p ≤ q ∧ q ≤ 8 * s.size ∧ o.length ≤ most ∧ out.length ≤ o.length := by
  unfold copy at h
  split at h
  · cases h
  · split at h
    · cases h
    · rename_i x p1 h1
      have a1 := num_ok h1
      split at h
      · cases h
      · rename_i j p2 h2
        have a2 := sym_lt h2
        split at h
        · cases h
        · split at h
          · cases h
          · rename_i y p3 h3
            have a3 := num_ok h3
            split at h
            · cases h
            · split at h
              · cases h
              · injection h with h
                injection h with e1 e2
                subst e1 e2
                rw [cp_len]
                omega
theorem one_lt {a d : List Int} {s : ByteArray} {most p q : Nat} {t : Bool} {out o : List UInt8} (h : one a d s most p out = .ok (t, q, o)) (hm : out.length ≤ most) : p < q ∧ q ≤ 8 * s.size ∧ o.length ≤ most := by
  unfold one at h
  split at h
  · cases h
  · rename_i n p1 h1
    have a1 := sym_lt h1
    split at h
    · split at h
      · injection h with h
        injection h with e0 e1
        injection e1 with e1 e2
        subst e1 e2
        rw [List.length_append, List.length_singleton]
        omega
      · cases h
    · split at h
      · injection h with h
        injection h with e0 e1
        injection e1 with e1 e2
        subst e1 e2
        omega
      · split at h
        · cases h
        · rename_i p3 o' h3
          have a3 := copy_lt h3
          injection h with h
          injection h with e0 e1
          injection e1 with e1 e2
          subst e1 e2
          omega
/-- the symbols of a block, up to its end -/
def syms (a d : List Int) (s : ByteArray) (most p : Nat) (out : List UInt8) : Except Nat (Nat × List UInt8) :=
  match one a d s most p out with
  | .error e => .error e
  | .ok (true, q, o) => .ok (q, o)
  | .ok (false, q, o) => if p < q ∧ q ≤ 8 * s.size then syms a d s most q o else .error 0
termination_by 8 * s.size - p
theorem syms_err {a d : List Int} {s : ByteArray} {most p e : Nat} {out : List UInt8} (h : one a d s most p out = .error e) : syms a d s most p out = .error e := by rw [syms, h]
theorem syms_end {a d : List Int} {s : ByteArray} {most p q : Nat} {out o : List UInt8} (h : one a d s most p out = .ok (true, q, o)) : syms a d s most p out = .ok (q, o) := by rw [syms, h]
theorem syms_more {a d : List Int} {s : ByteArray} {most p q : Nat} {out o : List UInt8} (h : one a d s most p out = .ok (false, q, o)) (hm : out.length ≤ most) : syms a d s most p out = syms a d s most q o := by
  rw [syms, h]
  have := one_lt h hm
  simp only []
  rw [if_pos ⟨this.1, this.2.1⟩]
/-- the next whole byte -/
def al (p : Nat) : Nat := (p + 7) / 8 * 8
/-- a stored block -/
def stored (s : ByteArray) (most p : Nat) (out : List UInt8) : Except Nat (Nat × List UInt8) :=
  match num s (al p) 16 with
  | .error e => .error e
  | .ok (n, p1) =>
    match num s p1 16 with
    | .error e => .error e
    | .ok (m, p2) =>
      if m ≠ 65535 - n then .error 3 else
      if most < out.length + n then .error 7 else
      if s.size < p2 / 8 + n then .error 2 else .ok (p2 + 8 * n, out ++ (s.data.toList.drop (p2 / 8)).take n)
/-- the three numbers of a block with its own codes -/
def cnts (s : ByteArray) (p : Nat) : Except Nat ((Nat × Nat × Nat) × Nat) :=
  match num s p 5 with
  | .error e => .error e
  | .ok (a, p1) =>
    match num s p1 5 with
    | .error e => .error e
    | .ok (b, p2) =>
      match num s p2 4 with
      | .error e => .error e
      | .ok (c, p3) => if 29 < a ∨ 29 < b then .error 3 else .ok ((a, b, c), p3)
/-- k lengths of the lengths' codes, from the i-th on -/
def metas (s : ByteArray) : Nat → Nat → Nat → (Nat → Nat) → Except Nat (Nat × (Nat → Nat))
  | 0, _, p, f => .ok (p, f)
  | k + 1, i, p, f =>
    match num s p 3 with
    | .error e => .error e
    | .ok (x, p1) => metas s k (i + 1) p1 (fun j => if j = od i then x else f j)
def rpt (k : Nat) : Nat × Nat := if k = 0 then (3, 2) else if k = 1 then (3, 3) else (11, 7)
/-- the length that a symbol stands for, behind those of l, and how many times; the bit behind -/
def rep (s : ByteArray) (n p : Nat) (l : List Nat) : Except Nat ((Nat × Nat) × Nat) :=
  if n < 16 then .ok ((n, 1), p) else
  if n = 16 ∧ l = [] then .error 3 else
  match num s p (rpt (n - 16)).2 with
  | .error e => .error e
  | .ok (x, q) => .ok ((if n = 16 then l.getD (l.length - 1) 0 else 0, (rpt (n - 16)).1 + x), q)
def lstep (zs : List Int) (s : ByteArray) (all p : Nat) (l : List Nat) : Except Nat (Nat × List Nat) :=
  match sym zs s p with
  | .error e => .error e
  | .ok (n, p1) =>
    match rep s n p1 l with
    | .error e => .error e
    | .ok ((v, t), q) => if all < l.length + t then .error 3 else .ok (q, l ++ List.replicate t v)
theorem rep_lt {s : ByteArray} {n p q v t : Nat} {l : List Nat} (h : rep s n p l = .ok ((v, t), q)) (hp : p ≤ 8 * s.size) : p ≤ q ∧ q ≤ 8 * s.size := by
  unfold rep at h
  split at h
  · injection h with h; injection h with h1 h2; subst h2; omega
  · split at h
    · cases h
    · split at h
      · cases h
      · rename_i x q' h1
        have a1 := num_ok h1
        injection h with h; injection h with h1 h2; subst h2; omega
theorem lstep_lt {zs : List Int} {s : ByteArray} {all p q : Nat} {l m : List Nat} (h : lstep zs s all p l = .ok (q, m)) : p < q ∧ q ≤ 8 * s.size ∧ m.length ≤ all := by
  unfold lstep at h
  split at h
  · cases h
  · rename_i n p1 h1
    have a1 := sym_lt h1
    split at h
    · cases h
    · rename_i v t q' h2
      have a2 := rep_lt h2 a1.2.1
      split at h
      · cases h
      · injection h with h; injection h with e1 e2; subst e1 e2
        rw [List.length_append, List.length_replicate]
        omega
/-- lengths, up to so many -/
def lens (zs : List Int) (s : ByteArray) (all p : Nat) (l : List Nat) : Except Nat (Nat × List Nat) :=
  if all ≤ l.length then .ok (p, l) else
  match lstep zs s all p l with
  | .error e => .error e
  | .ok (q, m) => if p < q ∧ q ≤ 8 * s.size then lens zs s all q m else .error 0
termination_by 8 * s.size - p
theorem lens_end {zs : List Int} {s : ByteArray} {all p : Nat} {l : List Nat} (h : all ≤ l.length) : lens zs s all p l = .ok (p, l) := by rw [lens, if_pos h]
theorem lens_err {zs : List Int} {s : ByteArray} {all p e : Nat} {l : List Nat} (h0 : l.length < all) (h : lstep zs s all p l = .error e) : lens zs s all p l = .error e := by rw [lens, if_neg (by omega), h]
theorem lens_more {zs : List Int} {s : ByteArray} {all p q : Nat} {l m : List Nat} (h0 : l.length < all) (h : lstep zs s all p l = .ok (q, m)) : lens zs s all p l = lens zs s all q m := by
  rw [lens, if_neg (by omega), h]
  have := lstep_lt h
  simp only []
  rw [if_pos ⟨this.1, this.2.1⟩]
def ints (l : List Nat) : List Int := l.map fun x : Nat => (x : Int)
def ints19 (f : Nat → Nat) : List Int := (List.range 19).map fun i => (f i : Int)
/-- both lists of lengths of a block with its own codes -/
def own (s : ByteArray) (p : Nat) : Except Nat ((List Int × List Int) × Nat) :=
  match cnts s p with
  | .error e => .error e
  | .ok ((a, b, c), p1) =>
    match metas s (c + 4) 0 p1 (fun _ => 0) with
    | .error e => .error e
    | .ok (p2, f) =>
      if errN (ints19 f) ≠ 0 then .error (errN (ints19 f)) else
      match lens (ints19 f) s (a + b + 258) p2 [] with
      | .error e => .error e
      | .ok (p3, l) =>
        if l.getD 256 0 = 0 then .error 3 else
        if errN ((ints l).take (a + 257)) ≠ 0 then .error (errN ((ints l).take (a + 257))) else
        if errN ((ints l).drop (a + 257)) ≠ 0 then .error (errN ((ints l).drop (a + 257))) else .ok (((ints l).take (a + 257), (ints l).drop (a + 257)), p3)
/-- the lengths of the fixed codes -/
def fixA : List Int := List.replicate 144 8 ++ List.replicate 112 9 ++ List.replicate 24 7 ++ List.replicate 8 8
def fixD : List Int := List.replicate 32 5
/-- what stands in a block, by its kind -/
def body (s : ByteArray) (most p : Nat) (out : List UInt8) (k : Nat) : Except Nat (Nat × List UInt8) :=
  if k = 0 then stored s most p out else
  if k = 1 then syms fixA fixD s most p out else
  if k = 2 then (match own s p with
    | .error e => .error e
    | .ok ((a, d), q) => syms a d s most q out) else .error 3
/-- a block: whether it is the last one -/
def block (s : ByteArray) (most p : Nat) (out : List UInt8) : Except Nat (Bool × Nat × List UInt8) :=
  match num s p 1 with
  | .error e => .error e
  | .ok (x, p1) =>
    match num s p1 2 with
    | .error e => .error e
    | .ok (k, p2) =>
      match body s most p2 out k with
      | .error e => .error e
      | .ok (q, o) => .ok (x == 1, q, o)
/-- all blocks -/
def blocks (s : ByteArray) (most p : Nat) (out : List UInt8) : Except Nat (Nat × List UInt8) :=
  match block s most p out with
  | .error e => .error e
  | .ok (true, q, o) => .ok (q, o)
  | .ok (false, q, o) => if p < q ∧ q ≤ 8 * s.size then blocks s most q o else .error 0
termination_by 8 * s.size - p
theorem blocks_err {s : ByteArray} {most p e : Nat} {out : List UInt8} (h : block s most p out = .error e) : blocks s most p out = .error e := by rw [blocks, h]
theorem blocks_end {s : ByteArray} {most p q : Nat} {out o : List UInt8} (h : block s most p out = .ok (true, q, o)) : blocks s most p out = .ok (q, o) := by rw [blocks, h]
/-- what Raw tells -/
def raw (s : ByteArray) (most : Int) : Except Nat (List UInt8 × Nat) :=
  if most < 0 ∨ 262144 < most then .error 1 else
  match blocks s most.toNat 0 [] with
  | .error e => .error e
  | .ok (p, o) => .ok (o, (p + 7) / 8)
end Go.Proofs.YtddiccdfeckgaaaDoor.I
/- Layer 5, plain: each step goes on, and ends within the bytes; symbols are those of the list. -/
namespace Go.Proofs.YtddiccdfeckgaaaDoor.I
set_option linter.unusedVariables false

theorem dec_sym (zs : List Int) (b : Nat → Option Nat) : ∀ (k n c v m : Nat), Hf.fs zs n + Hf.cn zs n ≤ c → Hf.dec zs b k n c = (v, m, 0) → v < zs.length := by
  intro k
  induction k with
  | zero => intro n c v m h e; rw [Hf.dec] at e; cases e
  | succ k ih =>
    intro n c v m h e
    rw [Hf.dec] at e
    split at e
    · cases e
    · cases hb : b n with
      | none => rw [hb] at e; cases e
      | some x =>
        rw [hb] at e
        simp only [] at e
        have hf := Hf.fs_succ zs n
        split at e
        · rename_i hh
          obtain ⟨j, hj, e1, e2, e3⟩ := Hf.hit_of zs (n + 1) (2 * c + x) (by omega) hh
          have := (Hf.hit_sym zs (n + 1) (2 * c + x) j hj (by omega) e1 e3).2
          injection e with e4 e5
          omega
        · exact ih (n + 1) (2 * c + x) v m (by omega) e
theorem sym_in {zs : List Int} {s : ByteArray} {p v q : Nat} (h : sym zs s p = .ok (v, q)) : v < zs.length := by
  obtain ⟨n, h1, rfl⟩ := sym_ok h
  exact dec_sym zs _ 15 0 0 v n (by rw [Hf.cn_zero]; exact Nat.zero_le _) h1
theorem syms_lt (a d : List Int) (s : ByteArray) (most : Nat) : ∀ (f p q : Nat) (out o : List UInt8), 8 * s.size - p ≤ f → out.length ≤ most → syms a d s most p out = .ok (q, o) → p < q ∧ q ≤ 8 * s.size ∧ o.length ≤ most := by
  intro f
  induction f with
  | zero =>
    intro p q out o hf hm h
    rw [syms] at h
    split at h
    · cases h
    · rename_i h1
      have a1 := one_lt h1 hm
      omega
    · rename_i h1
      have a1 := one_lt h1 hm
      omega
  | succ f ih =>
    intro p q out o hf hm h
    rw [syms] at h
    split at h
    · cases h
    · rename_i q1 o1 h1
      have a1 := one_lt h1 hm
      injection h with h; injection h with e1 e2; subst e1 e2
      exact a1
    · rename_i q1 o1 h1
      have a1 := one_lt h1 hm
      rw [if_pos ⟨a1.1, a1.2.1⟩] at h
      have := ih q1 q o1 o (by omega) a1.2.2 h
      omega
theorem stored_lt {s : ByteArray} {most p q : Nat} {out o : List UInt8} (h : stored s most p out = .ok (q, o)) : p < q ∧ q ≤ 8 * s.size ∧ o.length ≤ most := by
  unfold stored at h
  split at h
  · cases h
  · rename_i n p1 h1
    have a1 := num_ok h1
    split at h
    · cases h
    · rename_i m p2 h2
      have a2 := num_ok h2
      split at h
      · cases h
      · split at h
        · cases h
        · split at h
          · cases h
          · injection h with h; injection h with e1 e2; subst e1 e2
            have e : (List.take n (List.drop (p2 / 8) s.data.toList)).length ≤ n := by simp; omega
            rw [List.length_append]
            unfold al at a1
            omega
theorem cnts_lt {s : ByteArray} {p q a b c : Nat} (h : cnts s p = .ok ((a, b, c), q)) : p < q ∧ q ≤ 8 * s.size ∧ a ≤ 29 ∧ b ≤ 29 ∧ c < 16 := by
  unfold cnts at h
  split at h
  · cases h
  · rename_i a' p1 h1
    have a1 := num_ok h1
    split at h
    · cases h
    · rename_i b' p2 h2
      have a2 := num_ok h2
      split at h
      · cases h
      · rename_i c' p3 h3
        have a3 := num_ok h3
        split at h
        · cases h
        · injection h with h; injection h with e1 e2; injection e1 with e1 e3; injection e3 with e3 e4; subst e1 e2 e3 e4
          have := nb_lt s p2 4
          have e16 : B.P2 4 = 16 := rfl
          omega
theorem metas_lt {s : ByteArray} : ∀ (k i p : Nat) (f g : Nat → Nat) (q : Nat), metas s k i p f = .ok (q, g) → p ≤ 8 * s.size → p ≤ q ∧ q ≤ 8 * s.size
  | 0, i, p, f, g, q, h, hp => by
    injection h with h; injection h with e1 e2; omega
  | k + 1, i, p, f, g, q, h, hp => by
    rw [metas] at h
    split at h
    · cases h
    · rename_i x p1 h1
      have a1 := num_ok h1
      have := metas_lt k (i + 1) p1 _ g q h (by omega)
      omega
theorem lens_lt (zs : List Int) (s : ByteArray) (all : Nat) : ∀ (f p q : Nat) (l m : List Nat), 8 * s.size - p ≤ f → l.length ≤ all → p ≤ 8 * s.size → lens zs s all p l = .ok (q, m) → p ≤ q ∧ q ≤ 8 * s.size ∧ m.length = all := by
  intro f
  induction f with
  | zero =>
    intro p q l m hf hl hp h
    rw [lens] at h
    split at h
    · injection h with h; injection h with e1 e2; subst e1 e2; omega
    · split at h
      · cases h
      · rename_i h1
        have a1 := lstep_lt h1
        omega
  | succ f ih =>
    intro p q l m hf hl hp h
    rw [lens] at h
    split at h
    · injection h with h; injection h with e1 e2; subst e1 e2; omega
    · split at h
      · cases h
      · rename_i q1 m1 h1
        have a1 := lstep_lt h1
        rw [if_pos ⟨a1.1, a1.2.1⟩] at h
        have := ih q1 q m1 m (by omega) a1.2.2 (by omega) h
        omega
theorem own_lt {s : ByteArray} {p q : Nat} {a d : List Int} (h : own s p = .ok ((a, d), q)) : p < q ∧ q ≤ 8 * s.size ∧ errN a = 0 ∧ errN d = 0 := by
  unfold own at h
  split at h
  · cases h
  · rename_i x y z p1 h1
    have a1 := cnts_lt h1
    split at h
    · cases h
    · rename_i p2 f h2
      have a2 := metas_lt _ _ _ _ _ _ h2 a1.2.1
      split at h
      · cases h
      · split at h
        · cases h
        · rename_i p3 l h3
          have a3 := lens_lt _ _ _ (8 * s.size) _ _ _ _ (by omega) (by simp) (by omega) h3
          split at h
          · cases h
          · split at h
            · cases h
            · split at h
              · cases h
              · rename_i e1 e2
                injection h with h; injection h with e3 e4; injection e3 with e5 e6; subst e4 e5 e6
                exact ⟨by omega, by omega, Decidable.not_not.1 e1, Decidable.not_not.1 e2⟩
theorem body_lt {s : ByteArray} {most p q k : Nat} {out o : List UInt8} (h : body s most p out k = .ok (q, o)) (hm : out.length ≤ most) : p < q ∧ q ≤ 8 * s.size ∧ o.length ≤ most := by
  unfold body at h
  split at h
  · exact stored_lt h
  · split at h
    · exact syms_lt _ _ _ _ _ _ _ _ _ (Nat.le_refl _) hm h
    · split at h
      · split at h
        · cases h
        · rename_i h1
          have a1 := own_lt h1
          have a2 := syms_lt _ _ _ _ _ _ _ _ _ (Nat.le_refl _) hm h
          omega
      · cases h
theorem block_lt {s : ByteArray} {most p q : Nat} {t : Bool} {out o : List UInt8} (h : block s most p out = .ok (t, q, o)) (hm : out.length ≤ most) : p < q ∧ q ≤ 8 * s.size ∧ o.length ≤ most := by
  unfold block at h
  split at h
  · cases h
  · rename_i x p1 h1
    have a1 := num_ok h1
    split at h
    · cases h
    · rename_i k p2 h2
      have a2 := num_ok h2
      split at h
      · cases h
      · rename_i q' o' h3
        have a3 := body_lt h3 hm
        injection h with h; injection h with e1 e2; injection e2 with e2 e3; subst e2 e3
        omega
theorem blocks_more {s : ByteArray} {most p q : Nat} {out o : List UInt8} (h : block s most p out = .ok (false, q, o)) (hm : out.length ≤ most) : blocks s most p out = blocks s most q o := by
  rw [blocks, h]
  have := block_lt h hm
  simp only []
  rw [if_pos ⟨this.1, this.2.1⟩]
theorem blocks_lt (s : ByteArray) (most : Nat) : ∀ (f p q : Nat) (out o : List UInt8), 8 * s.size - p ≤ f → out.length ≤ most → blocks s most p out = .ok (q, o) → p < q ∧ q ≤ 8 * s.size ∧ o.length ≤ most := by
  intro f
  induction f with
  | zero =>
    intro p q out o hf hm h
    rw [blocks] at h
    split at h
    · cases h
    · rename_i h1
      have a1 := block_lt h1 hm
      omega
    · rename_i h1
      have a1 := block_lt h1 hm
      omega
  | succ f ih =>
    intro p q out o hf hm h
    rw [blocks] at h
    split at h
    · cases h
    · rename_i q1 o1 h1
      have a1 := block_lt h1 hm
      injection h with h; injection h with e1 e2; subst e1 e2
      exact a1
    · rename_i q1 o1 h1
      have a1 := block_lt h1 hm
      rw [if_pos ⟨a1.1, a1.2.1⟩] at h
      have := ih q1 q o1 o (by omega) a1.2.2 h
      omega
end Go.Proofs.YtddiccdfeckgaaaDoor.I
/- Layer 5: the unpacker in memory, what a call of its methods turns and what it keeps. -/
namespace Go.Proofs.YtddiccdfeckgaaaDoor
open Go.RowKit
set_option linter.unusedVariables false

theorem quiet_same {P : Program} {f : FuncId} {args : Array Value} {w : World} {n : Nat} {v : Value}
    (h : Calls P f args (w.drewN n) fun e w' => e = .returned v ∧ w.drewN n = w') : Calls P f args (w.drewN n) fun e w'' => e = .returned v ∧ ∃ m, w'' = w.drewN m :=
  h.mono fun _ _ ⟨he, hm⟩ => ⟨he, n, hm.symm⟩
def byL (l : List UInt8) : List Value := l.map fun c => Value.int .u8 (c.toNat : Int)
theorem byL_len (l : List UInt8) : (byL l).length = l.length := by simp [byL]
theorem byL_app (l m : List UInt8) : byL (l ++ m) = byL l ++ byL m := by simp [byL]
theorem byL_at (l : List UInt8) (i : Nat) (h : i < l.length) : (byL l)[i]? = some (.int .u8 (l[i].toNat : Int)) := by simp [byL, h]
/-- what the package's variables hold -/
structure Gl (w : World) : Prop where
  len : ∀ i, i < 29 → w.cell? ⟨0, 2 * i, none⟩ = some (.int .i64 ((I.ln i).1 : Int)) ∧ w.cell? ⟨0, 2 * i + 1, none⟩ = some (.int .i64 ((I.ln i).2 : Int))
  dst : ∀ i, i < 30 → w.cell? ⟨1, 2 * i, none⟩ = some (.int .i64 ((I.ds i).1 : Int)) ∧ w.cell? ⟨1, 2 * i + 1, none⟩ = some (.int .i64 ((I.ds i).2 : Int))
  ord : ∀ i, i < 19 → w.cell? ⟨2, i, none⟩ = some (.int .i64 (I.od i : Int))
  rpt : ∀ i, i < 3 → w.cell? ⟨3, 2 * i, none⟩ = some (.int .i64 ((I.rpt i).1 : Int)) ∧ w.cell? ⟨3, 2 * i + 1, none⟩ = some (.int .i64 ((I.rpt i).2 : Int))
theorem Gl.keep {B : Nat} {w w' : World} (h : Gl w) (hb : Below B w w') (hB : 4 ≤ B) : Gl w' :=
  ⟨fun i hi => by rw [hb.cell (p := ⟨0, 2 * i, none⟩) (by show 0 < B; omega), hb.cell (p := ⟨0, 2 * i + 1, none⟩) (by show 0 < B; omega)]; exact h.len i hi,
   fun i hi => by rw [hb.cell (p := ⟨1, 2 * i, none⟩) (by show 1 < B; omega), hb.cell (p := ⟨1, 2 * i + 1, none⟩) (by show 1 < B; omega)]; exact h.dst i hi,
   fun i hi => by rw [hb.cell (p := ⟨2, i, none⟩) (by show 2 < B; omega)]; exact h.ord i hi,
   fun i hi => by rw [hb.cell (p := ⟨3, 2 * i, none⟩) (by show 3 < B; omega), hb.cell (p := ⟨3, 2 * i + 1, none⟩) (by show 3 < B; omega)]; exact h.rpt i hi⟩
/-- the cells of an unpacker -/
def upA (s : ByteArray) (p most : Nat) (sl : Value) (F : Array Value) : Array Value := #[.string s, .int .i64 (p : Int), .int .i64 (most : Int), sl] ++ F
theorem upA_0 (s : ByteArray) (p most : Nat) (sl : Value) (F : Array Value) : (upA s p most sl F)[0]? = some (.string s) := by unfold upA; rw [Array.getElem?_append_left (by simp)]; rfl
theorem upA_1 (s : ByteArray) (p most : Nat) (sl : Value) (F : Array Value) : (upA s p most sl F)[1]? = some (.int .i64 (p : Int)) := by unfold upA; rw [Array.getElem?_append_left (by simp)]; rfl
theorem upA_2 (s : ByteArray) (p most : Nat) (sl : Value) (F : Array Value) : (upA s p most sl F)[2]? = some (.int .i64 (most : Int)) := by unfold upA; rw [Array.getElem?_append_left (by simp)]; rfl
theorem upA_3 (s : ByteArray) (p most : Nat) (sl : Value) (F : Array Value) : (upA s p most sl F)[3]? = some sl := by unfold upA; rw [Array.getElem?_append_left (by simp)]; rfl
theorem upA_set1 (s : ByteArray) (p q most : Nat) (sl : Value) (F : Array Value) : (upA s p most sl F).setIfInBounds 1 (.int .i64 (q : Int)) = upA s q most sl F := by
  apply Array.ext'; simp [upA]
theorem upA_set3 (s : ByteArray) (p most : Nat) (sl sl' : Value) (F : Array Value) : (upA s p most sl F).setIfInBounds 3 sl' = upA s p most sl' F := by
  apply Array.ext'; simp [upA]
/-- an unpacker lies in block b; what it has unpacked is out, in memory of the call's own (from B on) -/
structure U (w : World) (B b : Nat) (s : ByteArray) (p most : Nat) (sl : Value) (out : List UInt8) (F : Array Value) : Prop where
  blk : Blk w b (upA s p most sl F) 48
  own : w.ownsRow B 5 1 sl out.length (byL out)
  far : sl.ownBlock ≠ some b
  base : B ≤ b
  four : 4 ≤ B
  glob : Gl w
/-- what a call keeps: all but the unpacker's block and that of what it has unpacked -/
structure Kp (b : Nat) (sl : Value) (w w' : World) (sl' : Value) : Prop where
  os : w'.os = w.os
  tape : w'.tape = w.tape
  output : w'.output = w.output
  size : w.heap.size ≤ w'.heap.size
  block : ∀ k, k < w.heap.size → k ≠ b → sl.ownBlock ≠ some k → w'.heap[k]? = w.heap[k]?
  own : sl'.ownBlock = sl.ownBlock ∨ ∀ k, sl'.ownBlock = some k → w.heap.size ≤ k
section
variable {b B : Nat} {sl sl' sl'' : Value} {w w' w'' : World}
theorem Kp.refl (b : Nat) (sl : Value) (w : World) : Kp b sl w w sl := ⟨rfl, rfl, rfl, Nat.le_refl _, fun _ _ _ _ => rfl, Or.inl rfl⟩
theorem Kp.trans (h : Kp b sl w w' sl') (k : Kp b sl' w' w'' sl'') : Kp b sl w w'' sl'' := by
  refine ⟨k.os.trans h.os, k.tape.trans h.tape, k.output.trans h.output, Nat.le_trans h.size k.size, fun i hi hb hs => ?_, ?_⟩
  · rw [k.block i (by have := h.size; omega) hb, h.block i hi hb hs]
    rcases h.own with e | e
    · rw [e]; exact hs
    · intro e2; have := e i e2; omega
  · rcases k.own with e | e
    · rw [e]; exact h.own
    · right; intro i hi; have := e i hi; have := h.size; omega
theorem Kp.of_below (b : Nat) (sl : Value) (h : Below w.heap.size w w') : Kp b sl w w' sl := ⟨h.os, h.tape, h.output, h.size, fun k hk _ _ => h.block k hk, Or.inl rfl⟩
theorem Kp.below (h : Kp b sl w w' sl') (hb : B ≤ b) (hs : ∀ k, sl.ownBlock = some k → B ≤ k) (hB : B ≤ w.heap.size) : Below B w w' :=
  ⟨h.os, h.tape, h.output, h.size, fun k hk => h.block k (by omega) (by omega) (fun e => by have := hs k e; omega)⟩
theorem Kp.blk (h : Kp b sl w w' sl') {g : Nat} {cs : Array Value} {t : TypeId} (hB : Blk w g cs t) (h1 : g ≠ b) (h2 : sl.ownBlock ≠ some g) : Blk w' g cs t := by
  unfold Blk; rw [h.block g hB.lt h1 h2]; exact hB
theorem Kp.set (b : Nat) (sl : Value) (w : World) (i : Nat) (v : Value) : Kp b sl w (w.setCell ⟨b, i, none⟩ v) sl :=
  ⟨rfl, rfl, rfl, by simp [World.setCell], fun k hk h1 _ => heap_setCell_other w ⟨b, i, none⟩ k v (by exact h1), Or.inl rfl⟩
end
section
variable {w w' : World} {B b : Nat} {s : ByteArray} {p most : Nat} {sl : Value} {out : List UInt8} {F : Array Value}
theorem U.lt (h : U w B b s p most sl out F) : b < w.heap.size := h.blk.lt
theorem U.hB (h : U w B b s p most sl out F) : B ≤ w.heap.size := by have := h.lt; have := h.base; omega
theorem U.c0 (h : U w B b s p most sl out F) : w.cell? ⟨b, 0, none⟩ = some (.string s) := (h.blk.cell 0).trans (upA_0 ..)
theorem U.c1 (h : U w B b s p most sl out F) : w.cell? ⟨b, 1, none⟩ = some (.int .i64 (p : Int)) := (h.blk.cell 1).trans (upA_1 ..)
theorem U.c2 (h : U w B b s p most sl out F) : w.cell? ⟨b, 2, none⟩ = some (.int .i64 (most : Int)) := (h.blk.cell 2).trans (upA_2 ..)
theorem U.c3 (h : U w B b s p most sl out F) : w.cell? ⟨b, 3, none⟩ = some sl := (h.blk.cell 3).trans (upA_3 ..)
theorem U.f (h : U w B b s p most sl out F) (i : Nat) : w.frozen? ⟨b, i, none⟩ = false := h.blk.frozen i
theorem U.keep (h : U w B b s p most sl out F) (k : Below w.heap.size w w') : U w' B b s p most sl out F := by
  refine ⟨h.blk.keep k, h.own.kept (row := none) ⟨k.os, k.tape, k.output, k.size, fun i hi _ => k.block i hi⟩ (by cases hv : sl.ownBlock <;> simp), h.far, h.base, h.four, h.glob.keep (k.mono h.hB) h.four⟩
theorem U.drewN (h : U w B b s p most sl out F) (n : Nat) : U (w.drewN n) B b s p most sl out F :=
  ⟨h.blk.drewN n, h.own, h.far, h.base, h.four, h.glob.keep (B := B) (w := w) (bq_drewN (bq_refl w) n |>.mono h.hB) h.four⟩
theorem U.set1 (h : U w B b s p most sl out F) (q : Nat) : U (w.setCell ⟨b, 1, none⟩ (.int .i64 (q : Int))) B b s q most sl out F := by
  have g : w.grownBy (w.setCell ⟨b, 1, none⟩ (.int .i64 (q : Int))) (some b) := ⟨rfl, rfl, rfl, by simp [World.setCell], fun k _ hk => heap_setCell_other w ⟨b, 1, none⟩ k _ (fun e => hk (by rw [e]))⟩
  refine ⟨by have := h.blk.set 1 (.int .i64 (q : Int)); rwa [upA_set1] at this, h.own.kept g (Or.inr h.far), h.far, h.base, h.four, h.glob.keep ((Below.refl B w).setCell h.base _) h.four⟩
/-- other bytes behind: the slice in the unpacker is turned -/
theorem U.set3 (h : Blk w b (upA s p most sl F) 48) {sl' : Value} {o : List UInt8} (own : w.ownsRow B 5 1 sl' o.length (byL o)) (far : sl'.ownBlock ≠ some b) (base : B ≤ b) (four : 4 ≤ B) (glob : Gl w) : U (w.setCell ⟨b, 3, none⟩ sl') B b s p most sl' o F := by
  have g : w.grownBy (w.setCell ⟨b, 3, none⟩ sl') (some b) := ⟨rfl, rfl, rfl, by simp [World.setCell], fun k _ hk => heap_setCell_other w ⟨b, 3, none⟩ k _ (fun e => hk (by rw [e]))⟩
  refine ⟨by have := h.set 3 sl'; rwa [upA_set3] at this, own.kept g (Or.inr far), far, base, four, glob.keep ((Below.refl B w).setCell base _) four⟩
theorem U.len (h : U w B b s p most sl out F) : ∃ a c, sl = .slice a out.length c ∧ out.length ≤ c := by
  rcases h.own.2 with ⟨rfl, h0⟩ | ⟨g, cap, cur, rfl, _, _, h3, _⟩
  · exact ⟨none, 0, by rw [h0], by omega⟩
  · exact ⟨_, cap, rfl, h3⟩
theorem U.slb (h : U w B b s p most sl out F) : ∀ k, sl.ownBlock = some k → B ≤ k := fun k hk => (h.own.lt k hk).1
theorem Kp.belowU {sl' : Value} (h : U w B b s p most sl out F) (k : Kp b sl w w' sl') : Below B w w' := k.below h.base h.slb h.hB
end
end Go.Proofs.YtddiccdfeckgaaaDoor
/- Layer 5: bits, a symbol, the next whole byte, room. -/
namespace Go.Proofs.YtddiccdfeckgaaaDoor
open Go.RowKit
set_option linter.unusedVariables false
section
variable {w : World} {B b : Nat} {s : ByteArray} {p most : Nat} {sl : Value} {out : List UInt8} {F : Array Value}
theorem num_bits_ok {s : ByteArray} {p n v q : Nat} (h : I.num s p n = .ok (v, q)) (hn : n ≤ 16) : bitsR s (p : Int) (n : Int) = .tuple #[.int .i64 (v : Int), .int .i64 (q : Int), .int .i64 0] := by
  obtain ⟨rfl, rfl, h3⟩ := I.num_ok h
  unfold bitsR
  rw [if_neg (by omega), if_neg (by omega), Int.toNat_natCast, Int.toNat_natCast]
  congr 3
theorem num_bits_bad {s : ByteArray} {p n e : Nat} (h : I.num s p n = .error e) (hn : n ≤ 16) : bitsR s (p : Int) (n : Int) = .tuple #[.int .i64 0, .int .i64 0, .int .i64 2] ∧ e = 2 := by
  obtain ⟨rfl, h2⟩ := I.num_err h
  unfold bitsR
  rw [if_neg (by omega), if_pos (by omega)]
  exact ⟨rfl, rfl⟩
theorem number_ok {n v q : Nat} (hs : s.size ≤ 1048576) (hu : U w B b s p most sl out F) (hp : p ≤ 16777216) (hn : n ≤ 16) (h : I.num s p n = .ok (v, q)) :
    Calls Tryd.prog 40 #[.pointer (some ⟨b, 0, none⟩), .int .i64 (n : Int)] w fun e w' => e = .returned (.tuple #[.int .i64 (v : Int), .int .i64 0]) ∧ U w' B b s q most sl out F ∧ Kp b sl w w' sl := by
  have HC := fun W => bits_any s (p : Int) (n : Int) W (by omega) (by omega)
  rw [num_bits_ok h hn] at HC
  have HC2 := Lib.hid HC
  have HU := Lib.hid hu
  have c0 := hu.c0
  have c1 := hu.c1
  clear HC h hu
  go_enter Tryd.func40, Tryd.ntmps40
  go_upto_region 1 with (fail)
  go_quiet ((go_at_call 64; exact quiet_same (HC2.out _)))
  have HU2 := Lib.hid (HU.out.drewN nq)
  have HK := Lib.hid (Kp.of_below b sl (bq_drewN (bq_refl w) nq))
  generalize w.drewN nq = w1 at *
  have d1 := HU2.out.c1
  have f1 := HU2.out.f 1
  go_wp2
  go_ret2
  exact ⟨rfl, HU2.out.set1 q, HK.out.trans (Kp.set b sl w1 1 _)⟩
theorem number_bad {n e0 : Nat} (hs : s.size ≤ 1048576) (hu : U w B b s p most sl out F) (hp : p ≤ 16777216) (hn : n ≤ 16) (h : I.num s p n = .error e0) :
    Calls Tryd.prog 40 #[.pointer (some ⟨b, 0, none⟩), .int .i64 (n : Int)] w fun e w' => e = .returned (.tuple #[.int .i64 0, .int .i64 (e0 : Int)]) ∧ U w' B b s p most sl out F ∧ Kp b sl w w' sl := by
  have HC := fun W => bits_any s (p : Int) (n : Int) W (by omega) (by omega)
  obtain ⟨e1, rfl⟩ := num_bits_bad h hn
  rw [e1] at HC
  have HC2 := Lib.hid HC
  have HU := Lib.hid hu
  have c0 := hu.c0
  have c1 := hu.c1
  clear HC h hu e1
  go_enter Tryd.func40, Tryd.ntmps40
  go_upto_region 1 with (fail)
  go_quiet ((go_at_call 64; exact quiet_same (HC2.out _)))
  have HU2 := Lib.hid (HU.out.drewN nq)
  have HK := Lib.hid (Kp.of_below b sl (bq_drewN (bq_refl w) nq))
  generalize w.drewN nq = w1 at *
  go_wp2
  go_ret2
  exact ⟨rfl, HU2.out, HK.out⟩
end
end Go.Proofs.YtddiccdfeckgaaaDoor
/- Layer 5: a symbol, the next whole byte, room. -/
namespace Go.Proofs.YtddiccdfeckgaaaDoor
open Go.RowKit
set_option linter.unusedVariables false
/-- the cells of a table; its symbols lie in block g -/
def tbV (zs : List Int) (g : Nat) : Array Value := tabA (Hf.cn zs) (some ⟨g, 0, none⟩) (Hf.st zs 16)
theorem tbV_size (zs : List Int) (g : Nat) : (tbV zs g).size = 17 := tabA_size _ _ _
theorem tbV_at (zs : List Int) (g k : Nat) (h : k < 16) : (tbV zs g)[k]? = some (.int .i64 (Hf.cn zs k : Int)) := tabA_at _ _ _ k h
theorem tbV_sl (zs : List Int) (g : Nat) : (tbV zs g)[16]? = some (.slice (some ⟨g, 0, none⟩) (Hf.st zs 16) (Hf.st zs 16)) := tabA_sl _ _ _
def Tb (w : World) (zs : List Int) (g : Nat) : Prop := Blk w g (intA (Hf.sy zs zs.length) (Hf.st zs 16)) 3 ∧ zs.length ≤ 320
theorem Tb.keep {w w' : World} {zs : List Int} {g : Nat} (h : Tb w zs g) (k : Below w.heap.size w w') : Tb w' zs g := ⟨h.1.keep k, h.2⟩
theorem Kp.tb {b : Nat} {sl sl' : Value} {w w' : World} {zs : List Int} {g : Nat} (h : Kp b sl w w' sl') (t : Tb w zs g) (h1 : g ≠ b) (h2 : sl.ownBlock ≠ some g) : Tb w' zs g := ⟨h.blk t.1 h1 h2, t.2⟩
theorem sym_next_ok {zs : List Int} {s : ByteArray} {p v q : Nat} (h : I.sym zs s p = .ok (v, q)) : nxR zs s (p : Int) = .tuple #[.int .i64 (v : Int), .int .i64 (q : Int), .int .i64 0] := by
  obtain ⟨n, h1, rfl⟩ := I.sym_ok h
  unfold nxR
  rw [if_neg (by omega), Int.toNat_natCast, h1, nxV_0]
  congr 3
theorem sym_next_bad {zs : List Int} {s : ByteArray} {p e : Nat} (h : I.sym zs s p = .error e) : ∃ x y : Int, nxR zs s (p : Int) = .tuple #[.int .i64 x, .int .i64 y, .int .i64 (e : Int)] := by
  obtain ⟨h1, h2⟩ := I.sym_err h
  unfold nxR nxV
  rw [if_neg (by omega), Int.toNat_natCast, h2]
  exact ⟨_, _, rfl⟩
section
variable {w : World} {B b : Nat} {s : ByteArray} {p most : Nat} {sl : Value} {out : List UInt8} {F : Array Value}
set_option maxHeartbeats 1000000 in
theorem symbol_ok {zs : List Int} {g v q : Nat} (hs : s.size ≤ 1048576) (hu : U w B b s p most sl out F) (hp : p ≤ 8388608) (ht : Tb w zs g) (h : I.sym zs s p = .ok (v, q)) :
    Calls Tryd.prog 66 #[.pointer (some ⟨b, 0, none⟩), .agg (tbV zs g)] w fun e w' => e = .returned (.tuple #[.int .i64 (v : Int), .int .i64 0]) ∧ U w' B b s q most sl out F ∧ Kp b sl w w' sl := by
  have HU := Lib.hid hu
  have HT := Lib.hid ht
  have HR := Lib.hid (sym_next_ok h)
  clear hu ht h
  go_enter Tryd.func66, Tryd.ntmps66
  go_upto_region 1 with (refine wl_box 43 _ _ rfl rfl rfl ?_; intro W1 b1 B1 l1 k1)
  have HN : Hid (∀ w', Below W1.heap.size W1 w' → Calls Tryd.prog 83 #[.agg (tbV zs g), .string s, .int .i64 (p : Int)] w' fun e w'' => e = .returned (.tuple #[.int .i64 (v : Int), .int .i64 (q : Int), .int .i64 0]) ∧ Below W1.heap.size W1 w'') := Lib.hid fun w' hw' => by
    rw [← HR.out]
    exact (next_any zs s (p : Int) g w' (by omega) (by omega) HT.out.2 ((HT.out.1.keep k1).keep hw')).mono fun e w'' ⟨h1, h2⟩ => ⟨h1, bq_trans hw' h2⟩
  have HU1 := Lib.hid (HU.out.keep k1)
  have HS : Hid (∀ w', Below W1.heap.size W1 w' → w'.cell? ⟨b, 0, none⟩ = some (.string s) ∧ w'.cell? ⟨b, 1, none⟩ = some (.int .i64 (p : Int)) ∧ w'.cell? ⟨b1, 0, none⟩ = some (.int .i64 (Hf.cn zs 0 : Int)) ∧ w'.cell? ⟨b1, 1, none⟩ = some (.int .i64 (Hf.cn zs 1 : Int)) ∧ w'.cell? ⟨b1, 2, none⟩ = some (.int .i64 (Hf.cn zs 2 : Int)) ∧ w'.cell? ⟨b1, 3, none⟩ = some (.int .i64 (Hf.cn zs 3 : Int)) ∧ w'.cell? ⟨b1, 4, none⟩ = some (.int .i64 (Hf.cn zs 4 : Int)) ∧ w'.cell? ⟨b1, 5, none⟩ = some (.int .i64 (Hf.cn zs 5 : Int)) ∧ w'.cell? ⟨b1, 6, none⟩ = some (.int .i64 (Hf.cn zs 6 : Int)) ∧ w'.cell? ⟨b1, 7, none⟩ = some (.int .i64 (Hf.cn zs 7 : Int)) ∧ w'.cell? ⟨b1, 8, none⟩ = some (.int .i64 (Hf.cn zs 8 : Int)) ∧ w'.cell? ⟨b1, 9, none⟩ = some (.int .i64 (Hf.cn zs 9 : Int)) ∧ w'.cell? ⟨b1, 10, none⟩ = some (.int .i64 (Hf.cn zs 10 : Int)) ∧ w'.cell? ⟨b1, 11, none⟩ = some (.int .i64 (Hf.cn zs 11 : Int)) ∧ w'.cell? ⟨b1, 12, none⟩ = some (.int .i64 (Hf.cn zs 12 : Int)) ∧ w'.cell? ⟨b1, 13, none⟩ = some (.int .i64 (Hf.cn zs 13 : Int)) ∧ w'.cell? ⟨b1, 14, none⟩ = some (.int .i64 (Hf.cn zs 14 : Int)) ∧ w'.cell? ⟨b1, 15, none⟩ = some (.int .i64 (Hf.cn zs 15 : Int)) ∧ w'.cell? ⟨b1, 16, none⟩ = some (.slice (some ⟨g, 0, none⟩) (Hf.st zs 16) (Hf.st zs 16))) := Lib.hid fun w' hw' => by
    have u := HU1.out.keep hw'
    have v := B1.keep hw'
    exact ⟨u.c0, u.c1, (v.cell 0).trans (tbV_at zs g 0 (by omega)), (v.cell 1).trans (tbV_at zs g 1 (by omega)), (v.cell 2).trans (tbV_at zs g 2 (by omega)), (v.cell 3).trans (tbV_at zs g 3 (by omega)), (v.cell 4).trans (tbV_at zs g 4 (by omega)), (v.cell 5).trans (tbV_at zs g 5 (by omega)), (v.cell 6).trans (tbV_at zs g 6 (by omega)), (v.cell 7).trans (tbV_at zs g 7 (by omega)), (v.cell 8).trans (tbV_at zs g 8 (by omega)), (v.cell 9).trans (tbV_at zs g 9 (by omega)), (v.cell 10).trans (tbV_at zs g 10 (by omega)), (v.cell 11).trans (tbV_at zs g 11 (by omega)), (v.cell 12).trans (tbV_at zs g 12 (by omega)), (v.cell 13).trans (tbV_at zs g 13 (by omega)), (v.cell 14).trans (tbV_at zs g 14 (by omega)), (v.cell 15).trans (tbV_at zs g 15 (by omega)), (v.cell 16).trans (tbV_sl zs g)⟩
  have hd0 : Below W1.heap.size W1 W1.drew := bq_drew (bq_refl W1)
  have HK := Lib.hid k1
  clear B1 l1 k1 HU HT HR
  go_region_held3 (fun w' => w'.cell? ⟨b, 0, none⟩ = some (.string s) ∧ w'.cell? ⟨b, 1, none⟩ = some (.int .i64 (p : Int)) ∧ w'.cell? ⟨b1, 0, none⟩ = some (.int .i64 (Hf.cn zs 0 : Int)) ∧ w'.cell? ⟨b1, 1, none⟩ = some (.int .i64 (Hf.cn zs 1 : Int)) ∧ w'.cell? ⟨b1, 2, none⟩ = some (.int .i64 (Hf.cn zs 2 : Int)) ∧ w'.cell? ⟨b1, 3, none⟩ = some (.int .i64 (Hf.cn zs 3 : Int)) ∧ w'.cell? ⟨b1, 4, none⟩ = some (.int .i64 (Hf.cn zs 4 : Int)) ∧ w'.cell? ⟨b1, 5, none⟩ = some (.int .i64 (Hf.cn zs 5 : Int)) ∧ w'.cell? ⟨b1, 6, none⟩ = some (.int .i64 (Hf.cn zs 6 : Int)) ∧ w'.cell? ⟨b1, 7, none⟩ = some (.int .i64 (Hf.cn zs 7 : Int)) ∧ w'.cell? ⟨b1, 8, none⟩ = some (.int .i64 (Hf.cn zs 8 : Int)) ∧ w'.cell? ⟨b1, 9, none⟩ = some (.int .i64 (Hf.cn zs 9 : Int)) ∧ w'.cell? ⟨b1, 10, none⟩ = some (.int .i64 (Hf.cn zs 10 : Int)) ∧ w'.cell? ⟨b1, 11, none⟩ = some (.int .i64 (Hf.cn zs 11 : Int)) ∧ w'.cell? ⟨b1, 12, none⟩ = some (.int .i64 (Hf.cn zs 12 : Int)) ∧ w'.cell? ⟨b1, 13, none⟩ = some (.int .i64 (Hf.cn zs 13 : Int)) ∧ w'.cell? ⟨b1, 14, none⟩ = some (.int .i64 (Hf.cn zs 14 : Int)) ∧ w'.cell? ⟨b1, 15, none⟩ = some (.int .i64 (Hf.cn zs 15 : Int)) ∧ w'.cell? ⟨b1, 16, none⟩ = some (.slice (some ⟨g, 0, none⟩) (Hf.st zs 16) (Hf.st zs 16))) (first | exact HS.out _ (by assumption))
    (first | (go_at_call 83; refine (HN.out _ (by assumption)).mono ?_; rintro e w9 ⟨rfl, hb9⟩))
  have HU2 := Lib.hid (HU1.out.keep hb9)
  have HK2 := Lib.hid (Kp.of_below b sl (bq_trans HK.out hb9))
  have d1 := HU2.out.c1
  have f1 := HU2.out.f 1
  go_wp2
  go_ret2
  exact ⟨rfl, HU2.out.set1 q, HK2.out.trans (Kp.set b sl w9 1 _)⟩
end
end Go.Proofs.YtddiccdfeckgaaaDoor
/- Layer 5: a symbol that is none. -/
namespace Go.Proofs.YtddiccdfeckgaaaDoor
open Go.RowKit
set_option linter.unusedVariables false
section
variable {w : World} {B b : Nat} {s : ByteArray} {p most : Nat} {sl : Value} {out : List UInt8} {F : Array Value}
set_option maxHeartbeats 1000000 in
theorem symbol_bad {zs : List Int} {g e0 : Nat} (hs : s.size ≤ 1048576) (hu : U w B b s p most sl out F) (hp : p ≤ 8388608) (ht : Tb w zs g) (h : I.sym zs s p = .error e0) :
    Calls Tryd.prog 66 #[.pointer (some ⟨b, 0, none⟩), .agg (tbV zs g)] w fun e w' => e = .returned (.tuple #[.int .i64 0, .int .i64 (e0 : Int)]) ∧ U w' B b s p most sl out F ∧ Kp b sl w w' sl := by
  have HU := Lib.hid hu
  have HT := Lib.hid ht
  obtain ⟨x, y, hr⟩ := sym_next_bad h
  have HR := Lib.hid hr
  have h0 := (I.sym_err h).1
  have q0 : ((e0 : Int) != 0) = true := by rw [bne_iff_ne]; omega
  clear hu ht h hr h0
  go_enter Tryd.func66, Tryd.ntmps66
  go_upto_region 1 with (refine wl_box 43 _ _ rfl rfl rfl ?_; intro W1 b1 B1 l1 k1)
  have HN : Hid (∀ w', Below W1.heap.size W1 w' → Calls Tryd.prog 83 #[.agg (tbV zs g), .string s, .int .i64 (p : Int)] w' fun e w'' => e = .returned (.tuple #[.int .i64 x, .int .i64 y, .int .i64 (e0 : Int)]) ∧ Below W1.heap.size W1 w'') := Lib.hid fun w' hw' => by
    rw [← HR.out]
    exact (next_any zs s (p : Int) g w' (by omega) (by omega) HT.out.2 ((HT.out.1.keep k1).keep hw')).mono fun e w'' ⟨h1, h2⟩ => ⟨h1, bq_trans hw' h2⟩
  have HU1 := Lib.hid (HU.out.keep k1)
  have HS : Hid (∀ w', Below W1.heap.size W1 w' → w'.cell? ⟨b, 0, none⟩ = some (.string s) ∧ w'.cell? ⟨b, 1, none⟩ = some (.int .i64 (p : Int)) ∧ w'.cell? ⟨b1, 0, none⟩ = some (.int .i64 (Hf.cn zs 0 : Int)) ∧ w'.cell? ⟨b1, 1, none⟩ = some (.int .i64 (Hf.cn zs 1 : Int)) ∧ w'.cell? ⟨b1, 2, none⟩ = some (.int .i64 (Hf.cn zs 2 : Int)) ∧ w'.cell? ⟨b1, 3, none⟩ = some (.int .i64 (Hf.cn zs 3 : Int)) ∧ w'.cell? ⟨b1, 4, none⟩ = some (.int .i64 (Hf.cn zs 4 : Int)) ∧ w'.cell? ⟨b1, 5, none⟩ = some (.int .i64 (Hf.cn zs 5 : Int)) ∧ w'.cell? ⟨b1, 6, none⟩ = some (.int .i64 (Hf.cn zs 6 : Int)) ∧ w'.cell? ⟨b1, 7, none⟩ = some (.int .i64 (Hf.cn zs 7 : Int)) ∧ w'.cell? ⟨b1, 8, none⟩ = some (.int .i64 (Hf.cn zs 8 : Int)) ∧ w'.cell? ⟨b1, 9, none⟩ = some (.int .i64 (Hf.cn zs 9 : Int)) ∧ w'.cell? ⟨b1, 10, none⟩ = some (.int .i64 (Hf.cn zs 10 : Int)) ∧ w'.cell? ⟨b1, 11, none⟩ = some (.int .i64 (Hf.cn zs 11 : Int)) ∧ w'.cell? ⟨b1, 12, none⟩ = some (.int .i64 (Hf.cn zs 12 : Int)) ∧ w'.cell? ⟨b1, 13, none⟩ = some (.int .i64 (Hf.cn zs 13 : Int)) ∧ w'.cell? ⟨b1, 14, none⟩ = some (.int .i64 (Hf.cn zs 14 : Int)) ∧ w'.cell? ⟨b1, 15, none⟩ = some (.int .i64 (Hf.cn zs 15 : Int)) ∧ w'.cell? ⟨b1, 16, none⟩ = some (.slice (some ⟨g, 0, none⟩) (Hf.st zs 16) (Hf.st zs 16))) := Lib.hid fun w' hw' => by
    have u := HU1.out.keep hw'
    have v := B1.keep hw'
    exact ⟨u.c0, u.c1, (v.cell 0).trans (tbV_at zs g 0 (by omega)), (v.cell 1).trans (tbV_at zs g 1 (by omega)), (v.cell 2).trans (tbV_at zs g 2 (by omega)), (v.cell 3).trans (tbV_at zs g 3 (by omega)), (v.cell 4).trans (tbV_at zs g 4 (by omega)), (v.cell 5).trans (tbV_at zs g 5 (by omega)), (v.cell 6).trans (tbV_at zs g 6 (by omega)), (v.cell 7).trans (tbV_at zs g 7 (by omega)), (v.cell 8).trans (tbV_at zs g 8 (by omega)), (v.cell 9).trans (tbV_at zs g 9 (by omega)), (v.cell 10).trans (tbV_at zs g 10 (by omega)), (v.cell 11).trans (tbV_at zs g 11 (by omega)), (v.cell 12).trans (tbV_at zs g 12 (by omega)), (v.cell 13).trans (tbV_at zs g 13 (by omega)), (v.cell 14).trans (tbV_at zs g 14 (by omega)), (v.cell 15).trans (tbV_at zs g 15 (by omega)), (v.cell 16).trans (tbV_sl zs g)⟩
  have hd0 : Below W1.heap.size W1 W1.drew := bq_drew (bq_refl W1)
  have HK := Lib.hid k1
  clear B1 l1 k1 HU HT HR
  go_region_held3 (fun w' => w'.cell? ⟨b, 0, none⟩ = some (.string s) ∧ w'.cell? ⟨b, 1, none⟩ = some (.int .i64 (p : Int)) ∧ w'.cell? ⟨b1, 0, none⟩ = some (.int .i64 (Hf.cn zs 0 : Int)) ∧ w'.cell? ⟨b1, 1, none⟩ = some (.int .i64 (Hf.cn zs 1 : Int)) ∧ w'.cell? ⟨b1, 2, none⟩ = some (.int .i64 (Hf.cn zs 2 : Int)) ∧ w'.cell? ⟨b1, 3, none⟩ = some (.int .i64 (Hf.cn zs 3 : Int)) ∧ w'.cell? ⟨b1, 4, none⟩ = some (.int .i64 (Hf.cn zs 4 : Int)) ∧ w'.cell? ⟨b1, 5, none⟩ = some (.int .i64 (Hf.cn zs 5 : Int)) ∧ w'.cell? ⟨b1, 6, none⟩ = some (.int .i64 (Hf.cn zs 6 : Int)) ∧ w'.cell? ⟨b1, 7, none⟩ = some (.int .i64 (Hf.cn zs 7 : Int)) ∧ w'.cell? ⟨b1, 8, none⟩ = some (.int .i64 (Hf.cn zs 8 : Int)) ∧ w'.cell? ⟨b1, 9, none⟩ = some (.int .i64 (Hf.cn zs 9 : Int)) ∧ w'.cell? ⟨b1, 10, none⟩ = some (.int .i64 (Hf.cn zs 10 : Int)) ∧ w'.cell? ⟨b1, 11, none⟩ = some (.int .i64 (Hf.cn zs 11 : Int)) ∧ w'.cell? ⟨b1, 12, none⟩ = some (.int .i64 (Hf.cn zs 12 : Int)) ∧ w'.cell? ⟨b1, 13, none⟩ = some (.int .i64 (Hf.cn zs 13 : Int)) ∧ w'.cell? ⟨b1, 14, none⟩ = some (.int .i64 (Hf.cn zs 14 : Int)) ∧ w'.cell? ⟨b1, 15, none⟩ = some (.int .i64 (Hf.cn zs 15 : Int)) ∧ w'.cell? ⟨b1, 16, none⟩ = some (.slice (some ⟨g, 0, none⟩) (Hf.st zs 16) (Hf.st zs 16))) (first | exact HS.out _ (by assumption))
    (first | (go_at_call 83; refine (HN.out _ (by assumption)).mono ?_; rintro e w9 ⟨rfl, hb9⟩))
  have HU2 := Lib.hid (HU1.out.keep hb9)
  have HK2 := Lib.hid (Kp.of_below b sl (bq_trans HK.out hb9))
  go_wp2
  go_ret2
  exact ⟨rfl, HU2.out, HK2.out⟩
end
end Go.Proofs.YtddiccdfeckgaaaDoor
/- Layer 5: the next whole byte, room, a number of a span, a byte more. -/
namespace Go.Proofs.YtddiccdfeckgaaaDoor
open Go.RowKit
set_option linter.unusedVariables false
section
variable {w : World} {B b : Nat} {s : ByteArray} {p most : Nat} {sl : Value} {out : List UInt8} {F : Array Value}
theorem align_any (hu : U w B b s p most sl out F) (hp : p ≤ 8388608) :
    Calls Tryd.prog 18 #[.pointer (some ⟨b, 0, none⟩)] w fun e w' => e = .returned (.tuple #[]) ∧ U w' B b s (I.al p) most sl out F ∧ Kp b sl w w' sl := by
  have HU := Lib.hid hu
  have c1 := hu.c1
  have f1 := hu.f 1
  have he : (((p : Int) + 7) / 8 * 8) = (I.al p : Int) := by unfold I.al; omega
  have HE := Lib.hid he
  clear hu he
  go_enter Tryd.func18, Tryd.ntmps18
  go_wp2
  rw [HE.out]
  go_end0
  exact ⟨rfl, HU.out.set1 _, Kp.set b sl w 1 _⟩
theorem room_any (hu : U w B b s p most sl out F) (hm : most ≤ 262144) (ho : out.length ≤ most) :
    Calls Tryd.prog 65 #[.pointer (some ⟨b, 0, none⟩)] w fun e w' => e = .returned (.int .i64 ((most : Int) - (out.length : Int))) ∧ ∃ n, w' = w.drewN n := by
  obtain ⟨a, c, rfl, hc⟩ := hu.len
  have c2 := hu.c2
  have c3 := hu.c3
  generalize out.length = L at *
  go_enter Tryd.func65, Tryd.ntmps65
  go_upto_region 1 with (fail)
  go_quiet (fail)
  go_wp2
  go_ret
  exact ⟨rfl, nq, rfl⟩
theorem within_ok {l n v q : Nat} (hs : s.size ≤ 1048576) (hu : U w B b s p most sl out F) (hp : p ≤ 8388608) (hl : l ≤ 65536) (hn : n ≤ 16) (h : I.num s p n = .ok (v, q)) :
    Calls Tryd.prog 84 #[.pointer (some ⟨b, 0, none⟩), .agg #[.int .i64 (l : Int), .int .i64 (n : Int)]] w fun e w' => e = .returned (.tuple #[.int .i64 ((l + v : Nat) : Int), .int .i64 0]) ∧ U w' B b s q most sl out F ∧ Kp b sl w w' sl := by
  have hv : v < 65536 := by have := nb_lt s p n; have := P2_16 n hn; have := (I.num_ok h).1; omega
  have HU := Lib.hid hu
  have HN := Lib.hid (fun W (hW : U W B b s p most sl out F) => number_ok hs hW (by omega) hn h)
  clear h hu
  go_enter Tryd.func84, Tryd.ntmps84
  go_upto_region 1 with (refine wl_box 137 _ _ rfl rfl rfl ?_; intro W1 b1 B1 l1 k1)
  have c0 : W1.cell? ⟨b1, 0, none⟩ = some (.int .i64 (l : Int)) := B1.cell 0
  have c1 : W1.cell? ⟨b1, 1, none⟩ = some (.int .i64 (n : Int)) := B1.cell 1
  have HU1 := Lib.hid (HU.out.keep k1)
  have nb1 : b1 ≠ b := by have := HU.out.lt; omega
  have nsl : sl.ownBlock ≠ some b1 := fun e => by have := (HU.out.own.lt b1 e).2; omega
  have HK := Lib.hid (Kp.of_below b sl k1)
  have HB1 := Lib.hid B1
  clear k1 l1 B1 HU
  go_upto_region 2 with (go_at_call 40; refine (HN.out _ HU1.out).mono ?_; rintro e w2 ⟨rfl, hu2, hk2⟩)
  have d0 : w2.cell? ⟨b1, 0, none⟩ = some (.int .i64 (l : Int)) := (hk2.blk HB1.out nb1 nsl).cell 0
  have HR := Lib.hid (⟨hu2, HK.out.trans hk2⟩ : U w2 B b s q most sl out F ∧ Kp b sl w w2 sl)
  clear hu2 hk2 HB1 HK HU1
  go_wp2
  go_ret2
  exact ⟨by simp, HR.out.1, HR.out.2⟩
theorem within_bad {l n e0 : Nat} (hs : s.size ≤ 1048576) (hu : U w B b s p most sl out F) (hp : p ≤ 8388608) (hn : n ≤ 16) (h : I.num s p n = .error e0) :
    Calls Tryd.prog 84 #[.pointer (some ⟨b, 0, none⟩), .agg #[.int .i64 (l : Int), .int .i64 (n : Int)]] w fun e w' => e = .returned (.tuple #[.int .i64 0, .int .i64 (e0 : Int)]) ∧ U w' B b s p most sl out F ∧ Kp b sl w w' sl := by
  have HU := Lib.hid hu
  have HN := Lib.hid (fun W (hW : U W B b s p most sl out F) => number_bad hs hW (by omega) hn h)
  have q0 : ((e0 : Int) != 0) = true := by have := (I.num_err h).1; rw [bne_iff_ne]; omega
  clear h hu
  go_enter Tryd.func84, Tryd.ntmps84
  go_upto_region 1 with (refine wl_box 137 _ _ rfl rfl rfl ?_; intro W1 b1 B1 l1 k1)
  have c1 : W1.cell? ⟨b1, 1, none⟩ = some (.int .i64 (n : Int)) := B1.cell 1
  have HU1 := Lib.hid (HU.out.keep k1)
  have HK := Lib.hid (Kp.of_below b sl k1)
  clear k1 l1 B1 HU
  go_upto_region 2 with (go_at_call 40; refine (HN.out _ HU1.out).mono ?_; rintro e w2 ⟨rfl, hu2, hk2⟩)
  have HR := Lib.hid (⟨hu2, HK.out.trans hk2⟩ : U w2 B b s p most sl out F ∧ Kp b sl w w2 sl)
  clear hu2 hk2 HK HU1
  go_wp2
  go_ret2
  exact ⟨rfl, HR.out.1, HR.out.2⟩
end
end Go.Proofs.YtddiccdfeckgaaaDoor
/- Layer 5: bytes behind what is there: one byte; a string. -/
namespace Go.Proofs.YtddiccdfeckgaaaDoor
open Go.RowKit
set_option linter.unusedVariables false
set_option linter.unusedSimpArgs false
section
variable {w W : World} {B b : Nat} {s : ByteArray} {p most : Nat} {sl : Value} {out : List UInt8} {F : Array Value}
theorem push_facts (hu : U w B b s p most sl out F) (hW : Below w.heap.size w W) {sl' : Value} {w' : World} {o : List UInt8} (hown : w'.ownsRow B 5 1 sl' o.length (byL o)) (hg : W.grownBy w' sl.ownBlock)
    (hat : sl'.ownBlock = sl.ownBlock ∨ sl'.ownBlock = some W.heap.size) :
    w'.cell? ⟨b, 3, none⟩ = some sl ∧ w'.frozen? ⟨b, 3, none⟩ = false ∧ U (w'.setCell ⟨b, 3, none⟩ sl') B b s p most sl' o F ∧ Kp b sl w (w'.setCell ⟨b, 3, none⟩ sl') sl' := by
  have u := hu.keep hW
  have l1 := hu.lt
  have z1 := hW.size
  have hb : w'.heap[b]? = W.heap[b]? := hg.block b (by omega) (Ne.symm u.far)
  have blk : Blk w' b (upA s p most sl F) 48 := by unfold Blk; rw [hb]; exact u.blk
  have far : sl'.ownBlock ≠ some b := by
    rcases hat with e | e
    · rw [e]; exact u.far
    · rw [e]; intro e2; injection e2 with e2; omega
  have k : Kp b sl w w' sl' := by
    refine ⟨hg.os.trans hW.os, hg.tape.trans hW.tape, hg.output.trans hW.output, Nat.le_trans hW.size hg.size, fun i hi h1 h2 => ?_, ?_⟩
    · rw [hg.block i (by omega) (Ne.symm h2), hW.block i hi]
    · rcases hat with e | e
      · exact Or.inl e
      · right; intro i hi; rw [e] at hi; injection hi with hi; omega
  have gl : Gl w' := hu.glob.keep (k.belowU hu) hu.four
  refine ⟨(blk.cell 3).trans (upA_3 ..), blk.frozen 3, U.set3 blk hown far hu.base hu.four gl, k.trans (Kp.set b sl' w' 3 _)⟩
theorem push_run (hu : U w B b s p most sl out F) (hoh : Hid (out.length ≤ 262144)) (hW : Below w.heap.size w W) {g : Nat} (c : UInt8) (hc : W.heap[g]? = some (.cells #[.int .u8 (c.toNat : Int)] 5 (0, 0))) (ty : TypeId) :
    ∃ aa nn cc w', (Builtin.append_ #[36, 36] ty #[sl, .slice (some ⟨g, 0, none⟩) 1 1]).run Tryd.prog W = .ok (.slice aa nn cc) w' ∧ w'.cell? ⟨b, 3, none⟩ = some sl ∧ w'.frozen? ⟨b, 3, none⟩ = false ∧
      Hid (U (w'.setCell ⟨b, 3, none⟩ (.slice aa nn cc)) B b s p most (.slice aa nn cc) (out ++ [c]) F ∧ Kp b sl w (w'.setCell ⟨b, 3, none⟩ (.slice aa nn cc)) (.slice aa nn cc)) := by
  have ho := hoh.out
  obtain ⟨i0, hi, hz0, hz1, hz2⟩ := info_parts info5
  have u := hu.keep hW
  obtain ⟨sl', w', hr, h2, h3, _, h5⟩ := run_append_own_at (P := Tryd.prog) W B 36 ty 5 i0 (.int .u8 0) 1 1 Tryd.underlying36 hi hz0 hz1 hz2 rfl (by decide) sl out.length (byL out) u.own ⟨g, 0, none⟩ 1 1 [.int .u8 (c.toNat : Int)] rfl
    (World.news_of_block (cs := #[.int .u8 (c.toNat : Int)]) hc) (by simp [Value.oneCell']) (by unfold maxLen; omega) (by omega) u.hB
  have h2' : w'.ownsRow B 5 1 sl' (out ++ [c]).length (byL (out ++ [c])) := by rw [byL_app, List.length_append]; exact h2
  obtain ⟨f1, f2, f3, f4⟩ := push_facts hu hW h2' h3 h5
  obtain ⟨aa, cc, rfl, _⟩ := f3.len
  exact ⟨aa, _, cc, w', hr, f1, f2, Lib.hid ⟨f3, f4⟩⟩
end
section
variable {P : Program} (w : World)
theorem str_cells (t : ByteArray) : ((t.extract 0 t.size).data.map fun b => Value.int .u8 (b.toNat : Int)) = (byL t.data.toList).toArray := by
  have e : t.extract 0 t.size = t := by apply ByteArray.ext; simp [ByteArray.data_extract]
  rw [e]
  apply Array.ext'
  simp [byL]
theorem run_append_str (base : Nat) (t u ty e : TypeId) (i : TypeInfo) (z : Value) (ht : P.underlying t = some (.slice e)) (hu : P.underlying u = some .string) (hi : P.info? e = some i) (hz : i.zero = some z)
    (hsize : i.size = 1) (hby : i.bytes = 1) (hzs : z.cells.size = 1) (v : Value) (n : Nat) (xs : List Value) (hown : w.ownsRow base e 1 v n xs) (s : ByteArray)
    (h63 : n + s.size ≤ maxLen) (hbytes : (n + s.size) * 1 ≤ 140737488355328) (hbase : base ≤ w.heap.size) :
    ∃ v' w', (Builtin.append_ #[t, u] ty #[v, .string s]).run P w = .ok v' w' ∧ w'.ownsRow base e 1 v' (n + s.size) (xs ++ byL s.data.toList) ∧ w.grownBy w' v.ownBlock ∧ (v'.ownBlock = v.ownBlock ∨ v'.ownBlock = some w.heap.size) := by
  have hsmall : n + s.size ≤ 9223372036854775807 := by simp only [maxLen] at h63; omega
  have hnl : (byL s.data.toList).length = s.size := by rw [byL_len]; simp
  have hlen : (xs ++ byL s.data.toList).length = (n + s.size) * 1 := by rw [List.length_append, hown.1, hnl]; omega
  have grown : ∀ (old : Nat), old < n + s.size → ∀ (row : Option Nat),
      (w.drew.alloc (.cells (xs.toArray ++ (byL s.data.toList).toArray ++ Builtin.zeroCells z.cells (grownCap w (n + s.size) old e - (n + s.size))) e)).ownsRow base e 1
        (.slice (some ⟨w.heap.size, 0, none⟩) (n + s.size) (grownCap w (n + s.size) old e)) (n + s.size) (xs ++ byL s.data.toList) ∧
      w.grownBy (w.drew.alloc (.cells (xs.toArray ++ (byL s.data.toList).toArray ++ Builtin.zeroCells z.cells (grownCap w (n + s.size) old e - (n + s.size))) e)) row := by
    intro old ho row
    have hge := grownCap_ge w (n + s.size) old e
    have hcm : grownCap w (n + s.size) old e ≤ maxLen := grownCap_le_maxLen w (n + s.size) old e h63
    refine ⟨⟨hlen, .inr ⟨w.heap.size, _, _, rfl, hbase, heap_alloc_new w.drew _, hge, hcm, ?_, ?_⟩⟩, ⟨rfl, rfl, rfl, by simp, fun k hk _ => Below.heap_alloc w.drew _ k hk⟩⟩
    · simp only [Array.size_append, List.size_toArray, size_zeroCells, hzs, hown.1, hnl]
      omega
    · simp only [Array.toList_append, List.append_assoc]
      rw [← List.append_assoc, ← hlen]
      exact List.take_left
  have hsc := str_cells s
  rcases hown.2 with ⟨rfl, rfl⟩ | ⟨g, cap, cur, rfl, hbg, hg, hnc, hcm, hcs, htake⟩
  · have hx : xs = [] := List.eq_nil_of_length_eq_zero (by simpa using hown.1)
    subst hx
    by_cases hm : s.size = 0
    · have hn : byL s.data.toList = [] := List.eq_nil_of_length_eq_zero (by rw [hnl]; exact hm)
      refine ⟨.slice none 0 0, w, ?_, by rw [hn, hm]; exact World.ownsRow_nil w base e 1, ⟨rfl, rfl, rfl, Nat.le_refl _, fun _ _ _ => rfl⟩, Or.inl rfl⟩
      simp [Builtin.append_, run_underlying ht, run_underlying hu, sizeOf, typeInfo, hi, Builtin.lenOf, Builtin.firstCells, hm]
    · have hr := run_append_nil_string (P := P) w t u ty e i z ht hu hi hz s (by omega) (by omega) (by rw [hby]; omega)
      have hgr := grown 0 (by omega) (Value.ownBlock (.slice none 0 0))
      have hd : (s.data.map fun b => Value.int .u8 (b.toNat : Int)) = (byL s.data.toList).toArray := by apply Array.ext'; simp [byL]
      rw [hd] at hr
      simp only [Nat.zero_add, List.nil_append, Array.empty_append] at hgr ⊢
      exact ⟨_, _, hr, hgr.1, hgr.2, Or.inr rfl⟩
  · by_cases hroom : n + s.size ≤ cap
    · have hst := run_storeCells_at P g (n * i.size) e (byL s.data.toList) 0 cur w hg (by rw [hsize, hnl]; omega) (by simp [byL]; intros; rfl)
      simp only [Nat.add_zero] at hst
      have hr : (Builtin.append_ #[t, u] ty #[.slice (some ⟨g, 0, none⟩) n cap, .string s]).run P w = .ok (.slice (some ⟨g, 0, none⟩) (n + s.size) cap) (w.setRow g (cur.toList.take (n * i.size) ++ byL s.data.toList ++ cur.toList.drop (n * i.size + (byL s.data.toList).length)).toArray) := by
        have hft : List.take s.size (List.map (fun b : UInt8 => Value.int IntKind.u8 (b.toNat : Int)) s.data.toList) = byL s.data.toList := List.take_of_length_le (by simp)
        simp [Builtin.append_, run_underlying ht, run_underlying hu, sizeOf, typeInfo, hi, Builtin.lenOf, Builtin.firstCells, hroom, hft, Addr.add_lit, hst]
      refine ⟨_, _, hr, ⟨hlen, .inr ⟨g, cap, _, rfl, hbg, setRow_heap w g cur _ e _ hg, hroom, hcm, ?_, ?_⟩⟩, ⟨rfl, rfl, rfl, by simp, fun k _ hk => setRow_other w g k _ (fun e => hk (by simp [Value.ownBlock, e]))⟩, Or.inl rfl⟩
      · simp only [List.size_toArray, List.length_append, List.length_take, List.length_drop, Array.length_toList, hsize, hnl]
        omega
      · rw [hsize, htake, ← hlen]
        exact List.take_left
    · have holds : ∀ j u, xs[j]? = some u → w.cell? ((⟨g, 0, none⟩ : Addr).add j) = some u := hown.cells (g := g) rfl
      have hn : ¬ (n + s.size ≤ cap) := by omega
      have h63' : ¬ (9223372036854775807 < ((n : Int) + (s.size : Int))) := by omega
      have h48' : ¬ (281474976710656 < Builtin.nextslicecap (n + s.size) cap * i.bytes) := by
        have := growslice_fits (need := n + s.size) (old := cap) (bytes := i.bytes) (by omega) (by rw [hby]; omega)
        omega
      have hfo := run_firstCells_some (P := P) w.drew i.size n ⟨g, 0, none⟩ n cap xs (by rw [hsize]; exact hown.1) (by simpa using holds)
      have hgr := grown cap (by omega) (Value.ownBlock (.slice (some ⟨g, 0, none⟩) n cap))
      refine ⟨_, _, ?_, hgr.1, hgr.2, Or.inr rfl⟩
      simp [Builtin.append_, run_underlying ht, run_underlying hu, sizeOf, typeInfo, zeroValue, hi, hz, Builtin.lenOf, hn, h63', h48', Question.forced, hfo, newRow, grownCap]
      simp [Builtin.firstCells]
      congr 2
      apply Array.ext'
      simp [List.append_assoc, byL]
end
section
variable {w W : World} {B b : Nat} {s : ByteArray} {p most : Nat} {sl : Value} {out : List UInt8} {F : Array Value}
theorem str_run (hu : U w B b s p most sl out F) (hW : Below w.heap.size w W) (t : ByteArray) (hoh : Hid (out.length + t.size ≤ 262144)) (ty : TypeId) :
    ∃ aa nn cc w', (Builtin.append_ #[36, 9] ty #[sl, .string t]).run Tryd.prog W = .ok (.slice aa nn cc) w' ∧ w'.cell? ⟨b, 3, none⟩ = some sl ∧ w'.frozen? ⟨b, 3, none⟩ = false ∧
      Hid (U (w'.setCell ⟨b, 3, none⟩ (.slice aa nn cc)) B b s p most (.slice aa nn cc) (out ++ t.data.toList) F ∧ Kp b sl w (w'.setCell ⟨b, 3, none⟩ (.slice aa nn cc)) (.slice aa nn cc)) := by
  have ho := hoh.out
  obtain ⟨i0, hi, hz0, hz1, hz2⟩ := info_parts info5
  have u := hu.keep hW
  obtain ⟨sl', w', hr, h2, h3, h5⟩ := run_append_str (P := Tryd.prog) W B 36 9 ty 5 i0 (.int .u8 0) Tryd.underlying36 Tryd.underlying9 hi hz0 hz1 hz2 rfl sl out.length (byL out) u.own t (by unfold maxLen; omega) (by omega) u.hB
  have h2' : w'.ownsRow B 5 1 sl' (out ++ t.data.toList).length (byL (out ++ t.data.toList)) := by rw [byL_app, List.length_append, show t.data.toList.length = t.size by simp]; exact h2
  obtain ⟨f1, f2, f3, f4⟩ := push_facts hu hW h2' h3 h5
  obtain ⟨aa, cc, rfl, _⟩ := f3.len
  exact ⟨aa, _, cc, w', hr, f1, f2, Lib.hid ⟨f3, f4⟩⟩
end
end Go.Proofs.YtddiccdfeckgaaaDoor
/- Layer 5: a byte more, a string more. -/
namespace Go.Proofs.YtddiccdfeckgaaaDoor
open Go.RowKit
set_option linter.unusedVariables false
section
variable {ops : Array Oper} {rest : List Oper} {o : Oper} {a : Act} {Q : Exit → Act → World → Prop}
theorem wl_append {W w' : World} {v x v' : Value} {t u : TypeId} (hgd : o.guard = none) (sx xx : Operand) (ho : o.op = .call { callee := .builtin .append, args := #[sx, xx], argTypes := #[t, u] })
    (hs : a.eval sx = v) (hx : a.eval xx = x) (hrun : (Builtin.append_ #[t, u] o.type #[v, x]).run Tryd.prog W = .ok v' w') (h : wpList Tryd.prog ops Q rest (a.put o.dst v') w') : wpList Tryd.prog ops Q (o :: rest) a W := by
  refine wpList_plain hgd fun K hK => ?_
  unfold Oper.wp execOp
  simp only [ho, resolve, invoke, builtin, Sem.run_bind, Sem.run_pure, Result.andThen_ok, List.map_toArray, List.map_cons, List.map_nil, hs, hx, hrun]
  exact hK _ _ h
theorem step_append_run {W w' : World} {v x v' : Value} {t u : TypeId} {K : Act → World → Prop} {E : Prop} (hgd : o.guard = none) (sx xx : Operand) (ho : o.op = .call { callee := .builtin .append, args := #[sx, xx], argTypes := #[t, u] })
    (hs : a.eval sx = v) (hx : a.eval xx = x) (hrun : (Builtin.append_ #[t, u] o.type #[v, x]).run Tryd.prog W = .ok v' w') (h : K (a.put o.dst v') w') :
    if Region.wanted o (yielded ops a.tmps) = true then Oper.wp Tryd.prog o a W K Q else E := by
  have hw : Region.wanted o (yielded ops a.tmps) = true := by simp [Region.wanted, hgd]
  rw [if_pos hw]
  unfold Oper.wp execOp
  simp only [ho, resolve, invoke, builtin, Sem.run_bind, Sem.run_pure, Result.andThen_ok, List.map_toArray, List.map_cons, List.map_nil, hs, hx, hrun]
  exact h
end
section
variable {w : World} {B b : Nat} {s : ByteArray} {p most : Nat} {sl : Value} {out : List UInt8} {F : Array Value}
theorem put_full (c : UInt8) (hu : U w B b s p most sl out F) (hm : most ≤ 262144) (ho : out.length ≤ most) (hl : ¬ out.length < most) :
    Calls Tryd.prog 67 #[.pointer (some ⟨b, 0, none⟩), .int .u8 (c.toNat : Int)] w fun e w' => e = .returned (.int .i64 7) ∧ U w' B b s p most sl out F ∧ Kp b sl w w' sl := by
  have HR := Lib.hid (fun W (hW : U W B b s p most sl out F) => room_any hW hm ho)
  have HU := Lib.hid hu
  generalize hL : out.length = L at *
  clear hu
  go_enter Tryd.func67, Tryd.ntmps67
  go_wp2_with (go_at_call 65; refine (HR.out _ HU.out).mono ?_; rintro e w2 ⟨rfl, nq, rfl⟩)
  go_ret
  exact ⟨rfl, HU.out.drewN nq, Kp.of_below b sl (bq_drewN (bq_refl w) nq)⟩
set_option maxRecDepth 100000 in
theorem put_ok (c : UInt8) (hu : U w B b s p most sl out F) (hm : most ≤ 262144) (hl : out.length < most) :
    Calls Tryd.prog 67 #[.pointer (some ⟨b, 0, none⟩), .int .u8 (c.toNat : Int)] w fun e w' => e = .returned (.int .i64 0) ∧ ∃ sl', U w' B b s p most sl' (out ++ [c]) F ∧ Kp b sl w w' sl' := by
  have HR := Lib.hid (fun W (hW : U W B b s p most sl out F) => room_any hW hm (by omega))
  have HU := Lib.hid hu
  have hlo : out.length ≤ 262144 := by omega
  have HL := Lib.hid hlo
  clear hu hlo
  obtain ⟨L, hL⟩ : ∃ L, L = out.length := ⟨_, rfl⟩
  rw [← hL] at hl HR
  have HLL := Lib.hid hL
  clear hL
  go_enter Tryd.func67, Tryd.ntmps67
  go_upto_region 3 with (go_at_call 65; refine (HR.out _ HU.out).mono ?_; rintro e w2 ⟨rfl, nq, rfl⟩)
  have HU1 := Lib.hid (HU.out.drewN nq)
  have HK1 := Lib.hid (Kp.of_below b sl (bq_drewN (bq_refl w) nq))
  generalize w.drewN nq = w1 at *
  have c3 := HU1.out.c3
  obtain ⟨aa, nn, cc, w', hrun, d3, f3, HF⟩ := push_run HU1.out HL (bq_alloc (bq_refl w1) (.cells #[.int .u8 (c.toNat : Int)] 5)) c (heap_alloc_new w1 _) 36
  have HRUN := Lib.hid hrun
  clear hrun hm hl HR HLL HL
  go_wp2_with (refine wl_append rfl _ _ rfl rfl rfl HRUN.out ?_)
  go_ret
  exact ⟨rfl, _, HF.out.1, HK1.out.trans HF.out.2⟩
end
end Go.Proofs.YtddiccdfeckgaaaDoor
/- Layer 5: a distance. -/
namespace Go.Proofs.YtddiccdfeckgaaaDoor
open Go.RowKit
set_option maxRecDepth 100000
set_option linter.unusedVariables false
namespace I
def dist (d : List Int) (s : ByteArray) (p : Nat) : Except Nat (Nat × Nat) :=
  match sym d s p with
  | .error e => .error e
  | .ok (j, p2) =>
    if 30 ≤ j then .error 3 else
    match num s p2 (ds j).2 with
    | .error e => .error e
    | .ok (y, p3) => .ok ((ds j).1 + y, p3)
theorem copy_eq (d : List Int) (s : ByteArray) (most p : Nat) (out : List UInt8) (k : Nat) : copy d s most p out k =
    if 29 ≤ k then .error 3 else
    match num s p (ln k).2 with
    | .error e => .error e
    | .ok (x, p1) =>
      match dist d s p1 with
      | .error e => .error e
      | .ok (far, p3) =>
        if out.length < far then .error 3 else
        if most < out.length + ((ln k).1 + x) then .error 7 else .ok (p3, cp far ((ln k).1 + x) out) := by
  unfold copy dist
  split
  · rfl
  · cases h1 : num s p (ln k).2 with
    | error e => rfl
    | ok r =>
      obtain ⟨x, p1⟩ := r
      simp only []
      cases h2 : sym d s p1 with
      | error e => rfl
      | ok r =>
        obtain ⟨j, p2⟩ := r
        simp only []
        split
        · rfl
        · cases h3 : num s p2 (ds j).2 with
          | error e => rfl
          | ok r => rfl
theorem ds_bd (j : Nat) : (ds j).1 ≤ 24577 ∧ (ds j).2 ≤ 13 := by
  by_cases h : j < 30
  · have : ∀ j : Fin 30, (ds j).1 ≤ 24577 ∧ (ds j).2 ≤ 13 := by decide
    exact this ⟨j, h⟩
  · unfold ds
    rw [List.getD_eq_getElem?_getD, List.getElem?_eq_none (by simp [dstT]; omega)]
    exact ⟨Nat.zero_le _, Nat.zero_le _⟩
theorem ln_bd (j : Nat) : (ln j).1 ≤ 258 ∧ (ln j).2 ≤ 5 := by
  by_cases h : j < 29
  · have : ∀ j : Fin 29, (ln j).1 ≤ 258 ∧ (ln j).2 ≤ 5 := by decide
    exact this ⟨j, h⟩
  · unfold ln
    rw [List.getD_eq_getElem?_getD, List.getElem?_eq_none (by simp [lenT]; omega)]
    exact ⟨Nat.zero_le _, Nat.zero_le _⟩
end I
section
variable {w : World} {B b : Nat} {s : ByteArray} {p most : Nat} {sl : Value} {out : List UInt8} {F : Array Value}
theorem U.far_blk (hu : U w B b s p most sl out F) {g : Nat} (h : w.heap.size ≤ g) : g ≠ b ∧ sl.ownBlock ≠ some g := by
  have := hu.lt
  exact ⟨by omega, fun e => by have := (hu.own.lt g e).2; omega⟩
theorem two_at {w : World} {g j : Nat} {x y : Nat} (h : w.cell? ⟨g, 2 * j, none⟩ = some (.int .i64 (x : Int)) ∧ w.cell? ⟨g, 2 * j + 1, none⟩ = some (.int .i64 (y : Int))) :
    w.cell? ⟨g, j * 2, none⟩ = some (.int .i64 (x : Int)) ∧ w.cell? ⟨g, j * 2 + 1, none⟩ = some (.int .i64 (y : Int)) := by
  rw [Nat.mul_comm j 2]; exact h
theorem dist_ok {zs : List Int} {g far q : Nat} (hs : s.size ≤ 1048576) (hu : U w B b s p most sl out F) (hp : p ≤ 8388608) (ht : Tb w zs g) (hg : g ≠ b ∧ sl.ownBlock ≠ some g) (h : I.dist zs s p = .ok (far, q)) :
    Calls Tryd.prog 85 #[.pointer (some ⟨b, 0, none⟩), .agg (tbV zs g)] w fun e w' => e = .returned (.tuple #[.int .i64 (far : Int), .int .i64 0]) ∧ U w' B b s q most sl out F ∧ Kp b sl w w' sl := by
  unfold I.dist at h
  split at h
  · cases h
  rename_i j p2 h1
  split at h
  · cases h
  rename_i hj
  split at h
  · cases h
  rename_i y p3 h2
  injection h with h
  injection h with e1 e2
  subst e1 e2
  have bd := I.ds_bd j
  have a1 := I.sym_lt h1
  have HU := Lib.hid hu
  have HT := Lib.hid ht
  have hj2 : j < 30 := by omega
  have HSY := Lib.hid (fun W (hW : U W B b s p most sl out F) (hT : Tb W zs g) => symbol_ok hs hW hp hT h1)
  have HW := Lib.hid (fun W (hW : U W B b s p2 most sl out F) => within_ok (l := (I.ds j).1) hs hW (by omega) (by omega) (by omega) h2)
  clear hu ht h1 h2 a1 bd hj
  generalize hl : (I.ds j).1 = l at *
  generalize hn : (I.ds j).2 = n at *
  go_enter Tryd.func85, Tryd.ntmps85
  go_upto_region 2 with (first
    | (refine wl_box 43 _ _ rfl rfl rfl ?_; intro W1 b1 B1 l1 k1)
    | (refine wl_load 43 17 _ Tryd.underlying43 rfl size27 _ rfl rfl _ rfl _ _ B1 (tbV_size _ _) ?_)
    | (go_at_call 66; refine (HSY.out _ (HU.out.keep k1) (HT.out.keep k1)).mono ?_; rintro e w2 ⟨rfl, hu2, hk2⟩))
  have HK := Lib.hid ((Kp.of_below b sl k1).trans hk2)
  obtain ⟨g0, g1⟩ := two_at (hu2.glob.dst j hj2)
  rw [hl] at g0
  rw [hn] at g1
  have HU2 := Lib.hid hu2
  clear k1 l1 B1 hu2 hk2 HSY HT HU hl hn
  go_wp2_with (go_at_call 84; refine (HW.out _ HU2.out).mono ?_; rintro e w3 ⟨rfl, hu3, hk3⟩)
  go_ret2
  exact ⟨by simp, hu3, HK.out.trans hk3⟩
theorem dist_bad {zs : List Int} {g e0 : Nat} (hs : s.size ≤ 1048576) (hu : U w B b s p most sl out F) (hp : p ≤ 8388608) (ht : Tb w zs g) (hg : g ≠ b ∧ sl.ownBlock ≠ some g) (h : I.dist zs s p = .error e0) :
    Calls Tryd.prog 85 #[.pointer (some ⟨b, 0, none⟩), .agg (tbV zs g)] w fun e w' => e = .returned (.tuple #[.int .i64 0, .int .i64 (e0 : Int)]) ∧ e0 ≠ 0 ∧ Below B w w' := by
  unfold I.dist at h
  split at h
  · rename_i e1 h1
    injection h with h
    subst h
    have HU := Lib.hid hu
    have HT := Lib.hid ht
    have n0 := (I.sym_err h1).1
    have q0 : ((e1 : Int) != 0) = true := by rw [bne_iff_ne]; omega
    have HSY := Lib.hid (fun W (hW : U W B b s p most sl out F) (hT : Tb W zs g) => symbol_bad hs hW hp hT h1)
    clear hu ht h1
    go_enter Tryd.func85, Tryd.ntmps85
    go_wp2_with (first
      | (refine wl_box 43 _ _ rfl rfl rfl ?_; intro W1 b1 B1 l1 k1)
      | (refine wl_load 43 17 _ Tryd.underlying43 rfl size27 _ rfl rfl _ rfl _ _ B1 (tbV_size _ _) ?_)
      | (go_at_call 66; refine (HSY.out _ (HU.out.keep k1) (HT.out.keep k1)).mono ?_; rintro e w2 ⟨rfl, hu2, hk2⟩))
    go_ret2
    exact ⟨rfl, n0, ((Kp.of_below b sl k1).trans hk2).belowU HU.out⟩
  rename_i j p2 h1
  have a1 := I.sym_lt h1
  have HU := Lib.hid hu
  have HT := Lib.hid ht
  have HSY := Lib.hid (fun W (hW : U W B b s p most sl out F) (hT : Tb W zs g) => symbol_ok hs hW hp hT h1)
  split at h
  · rename_i hj
    injection h with h
    subst h
    clear hu ht h1
    go_enter Tryd.func85, Tryd.ntmps85
    go_wp2_with (first
      | (refine wl_box 43 _ _ rfl rfl rfl ?_; intro W1 b1 B1 l1 k1)
      | (refine wl_load 43 17 _ Tryd.underlying43 rfl size27 _ rfl rfl _ rfl _ _ B1 (tbV_size _ _) ?_)
      | (go_at_call 66; refine (HSY.out _ (HU.out.keep k1) (HT.out.keep k1)).mono ?_; rintro e w2 ⟨rfl, hu2, hk2⟩))
    go_ret2
    exact ⟨rfl, by omega, ((Kp.of_below b sl k1).trans hk2).belowU HU.out⟩
  rename_i hj
  split at h
  · rename_i e2 h2
    injection h with h
    subst h
    have bd := I.ds_bd j
    have hj2 : j < 30 := by omega
    have n0 : e2 ≠ 0 := by have := (I.num_err h2).1; omega
    have HW := Lib.hid (fun W (hW : U W B b s p2 most sl out F) => within_bad (l := (I.ds j).1) hs hW (by omega) (by omega) h2)
    clear hu ht h1 h2 a1 bd hj
    generalize hl : (I.ds j).1 = l at *
    generalize hn : (I.ds j).2 = n at *
    go_enter Tryd.func85, Tryd.ntmps85
    go_upto_region 2 with (first
      | (refine wl_box 43 _ _ rfl rfl rfl ?_; intro W1 b1 B1 l1 k1)
      | (refine wl_load 43 17 _ Tryd.underlying43 rfl size27 _ rfl rfl _ rfl _ _ B1 (tbV_size _ _) ?_)
      | (go_at_call 66; refine (HSY.out _ (HU.out.keep k1) (HT.out.keep k1)).mono ?_; rintro e w2 ⟨rfl, hu2, hk2⟩))
    have HK := Lib.hid ((Kp.of_below b sl k1).trans hk2)
    obtain ⟨g0, g1⟩ := two_at (hu2.glob.dst j hj2)
    rw [hl] at g0
    rw [hn] at g1
    have HU2 := Lib.hid hu2
    clear k1 l1 B1 hu2 hk2 HSY HT hl hn
    go_wp2_with (go_at_call 84; refine (HW.out _ HU2.out).mono ?_; rintro e w3 ⟨rfl, hu3, hk3⟩)
    go_ret2
    exact ⟨rfl, n0, (HK.out.trans hk3).belowU HU.out⟩
  · cases h
end
end Go.Proofs.YtddiccdfeckgaaaDoor
