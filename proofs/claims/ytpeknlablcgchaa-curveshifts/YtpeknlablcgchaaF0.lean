import Derived.Test.YtpeknlablcgchaaBic
import Derived.Test.YtpeknlablcgchaaBi6
import Derived.Test.YtpeknlablcgchaaBi9
/- Plain facts: fields of bits, one behind the other; what is read where they stand. -/
namespace Go.Proofs.Ytpeknlablcgchaa
open Go.RowKit
set_option linter.unusedVariables false
namespace F

/-- how many bits, and their number -/
def len : List (Nat × Nat) → Nat
  | [] => 0
  | p :: fs => p.2 + len fs
def num : List (Nat × Nat) → Nat
  | [] => 0
  | p :: fs => p.1 * B.P2 (len fs) + num fs
def ok (fs : List (Nat × Nat)) : Prop := ∀ p ∈ fs, p.1 < B.P2 p.2
theorem ok_cons {p : Nat × Nat} {fs : List (Nat × Nat)} (h : ok (p :: fs)) : p.1 < B.P2 p.2 ∧ ok fs := ⟨h p (by simp), fun q hq => h q (by simp [hq])⟩
theorem ok_nil : ok [] := fun p hp => by simp at hp
theorem ok_app {a b : List (Nat × Nat)} (ha : ok a) (hb : ok b) : ok (a ++ b) := fun p hp => (List.mem_append.1 hp).elim (ha p) (hb p)
theorem ok_one {v n : Nat} (h : v < B.P2 n) : ok [(v, n)] := fun p hp => by simp at hp; subst hp; exact h
theorem ok_mk {p : Nat × Nat} {fs : List (Nat × Nat)} (h : p.1 < B.P2 p.2) (k : ok fs) : ok (p :: fs) := fun q hq => by
  rcases List.mem_cons.1 hq with rfl | hq
  · exact h
  · exact k q hq
theorem len_app (a b : List (Nat × Nat)) : len (a ++ b) = len a + len b := by
  induction a with
  | nil => simp [len]
  | cons p a ih => simp only [List.cons_append, len, ih]; omega
theorem num_app (a b : List (Nat × Nat)) : num (a ++ b) = num a * B.P2 (len b) + num b := by
  induction a with
  | nil => simp [num]
  | cons p a ih => simp only [List.cons_append, num, ih, len_app, B.P2_add, Nat.add_mul, Nat.mul_assoc, Nat.add_assoc]
theorem num_lt {fs : List (Nat × Nat)} (h : ok fs) : num fs < B.P2 (len fs) := by
  induction fs with
  | nil => simp [num, len, B.P2_zero]
  | cons p fs ih => exact B.join_lt (ok_cons h).1 (ih (ok_cons h).2)
/-- as bytes, and how many bits of the last one are free -/
def bys (fs : List (Nat × Nat)) : List UInt8 := B.putL [] 0 (num fs) (len fs)
def fr (fs : List (Nat × Nat)) : Nat := B.putF 0 0 (len fs)
theorem bys_len (fs : List (Nat × Nat)) : (bys fs).length = (len fs + 7) / 8 := by
  unfold bys; rw [B.putL_len]; unfold B.putN; simp
theorem bys_nil : bys [] = [] := rfl
theorem fr_le (fs : List (Nat × Nat)) : fr fs ≤ 7 := B.putF_le _ _ _
theorem fr_eq (fs : List (Nat × Nat)) : 8 * (bys fs).length = len fs + fr fs := by
  have := B.putN_eq 0 0 (len fs)
  unfold bys fr
  rw [B.putL_len]
  simpa using this
theorem snd {fs : List (Nat × Nat)} (h : ok fs) : B.Snd (bys fs) (fr fs) := B.putL_snd [] 0 _ _ (by omega) (num_lt h)
theorem put {fs : List (Nat × Nat)} {v n : Nat} (h : ok fs) (hv : v < B.P2 n) : B.putL (bys fs) (fr fs) v n = bys (fs ++ [(v, n)]) ∧ B.putF (bys fs).length (fr fs) n = fr (fs ++ [(v, n)]) := by
  have e1 : len (fs ++ [(v, n)]) = len fs + n := by rw [len_app]; simp [len]
  have e2 : num (fs ++ [(v, n)]) = num fs * B.P2 n + v := by rw [num_app]; simp [len, num, B.P2_zero]
  constructor
  · unfold bys fr
    rw [e1, e2]
    exact B.putL_comp [] 0 (num fs) (len fs) v n (by omega) (num_lt h) hv
  · unfold fr
    rw [e1]
    unfold bys
    rw [B.putL_len]
    exact B.putF_comp 0 0 (len fs) n (by omega)
/-- a writer that holds them -/
def wrV (fs : List (Nat × Nat)) : Value := .agg #[.string (bs (bys fs)), .int .i64 (fr fs : Int)]
theorem wrV_nil : wrV [] = .agg #[.string ⟨#[]⟩, .int .i64 0] := rfl
theorem nf_bys {fs : List (Nat × Nat)} (h : ok fs) : nf (bs (bys fs)) (fr fs : Int) = fr fs := nf_of_snd _ _ (by rw [bs_data]; exact snd h)
theorem ppR_bys {fs : List (Nat × Nat)} {v n : Nat} (h : ok fs) (hv : v < B.P2 n) : ppR (bs (bys fs)) (fr fs : Int) v n = .tuple #[wrV (fs ++ [(v, n)]), .int .i64 0] := by
  unfold ppR wrV
  rw [nf_bys h, bs_data, bs_size, (put h hv).1, (put h hv).2]
/-- numbers, behind their width -/
def nums (h : Nat) (l : List Int) : List (Nat × Nat) := (mxW l, h) :: l.map fun v => (sgU v (mxW l), mxW l)
theorem mxW_from (c : Nat) (l : List Int) : l.foldl (fun m v => max m (wd v)) c = max c (mxW l) := by
  unfold mxW
  induction l generalizing c with
  | nil => simp
  | cons v l ih => rw [List.foldl_cons, List.foldl_cons, ih, ih (max 0 (wd v))]; omega
theorem mxW_app (a b : List Int) : mxW (a ++ b) = max (mxW a) (mxW b) := by
  rw [mxW, List.foldl_append, mxW_from]; rfl
theorem mxW_mem {l : List Int} {v : Int} (h : v ∈ l) : wd v ≤ mxW l := by
  obtain ⟨a, b, rfl⟩ := List.append_of_mem h
  rw [show a ++ v :: b = a ++ [v] ++ b by simp, mxW_app, mxW_snoc]
  omega
theorem mxW_cons (v : Int) (l : List Int) : mxW (v :: l) = max (wd v) (mxW l) := by
  rw [show v :: l = [v] ++ l from rfl, mxW_app]
  simp [mxW]
theorem mxW_le {l : List Int} {n : Nat} (h : ∀ v ∈ l, wd v ≤ n) : mxW l ≤ n := by
  induction l with
  | nil => simp [mxW]
  | cons v l ih =>
    rw [mxW_cons]
    have h1 := ih fun u hu => h u (by simp [hu])
    have h2 := h v (by simp)
    omega
theorem len_map (l : List Int) (f : Int → Nat) (n : Nat) : len (l.map fun v => (f v, n)) = l.length * n := by
  induction l with
  | nil => simp [len]
  | cons v l ih => simp only [List.map_cons, len, ih, List.length_cons, Nat.add_mul, Nat.one_mul]; omega
theorem nums_len (h : Nat) (l : List Int) : len (nums h l) = h + l.length * mxW l := by
  unfold nums; rw [len, len_map]
theorem nums_ok {h : Nat} {l : List Int} (h1 : mxW l < B.P2 h) (h2 : mxW l ≤ 31) (hb : ∀ v ∈ l, -9223372036854775808 ≤ v ∧ v ≤ 9223372036854775807) : ok (nums h l) := by
  intro p hp
  unfold nums at hp
  rcases List.mem_cons.1 hp with rfl | hp
  · exact h1
  · obtain ⟨v, hv, rfl⟩ := List.mem_map.1 hp
    exact (sgU_lt v (mxW l) (hb v hv).1 (hb v hv).2 h2 (mxW_mem hv)).1
theorem nums_take (h : Nat) (l : List Int) (k : Nat) (hk : k < l.length) : (nums h l).take (k + 2) = (nums h l).take (k + 1) ++ [(sgU l[k] (mxW l), mxW l)] := by
  unfold nums
  rw [List.take_succ_cons, List.take_succ_cons, List.take_succ_eq_append_getElem (by simpa using hk), List.getElem_map]
  simp
theorem nums_all (h : Nat) (l : List Int) : (nums h l).take (l.length + 1) = nums h l := by
  rw [List.take_of_length_le]; simp [nums]
theorem ok_take {fs : List (Nat × Nat)} (h : ok fs) (k : Nat) : ok (fs.take k) := fun p hp => h p (List.mem_of_mem_take hp)
theorem bit_len (b : Nat) : len [(b, 1)] = 1 := rfl
end F

/-- a reader, and an error's number -/
structure RS where
  s : ByteArray
  a : Int
  e : Int
namespace RS
/-- the next number, without a sign and with one, and what is left -/
def pl (x : RS) (n : Int) : Int := if x.e = 0 then plV x.s x.a n else 0
def sg (x : RS) (n : Int) : Int := if x.e = 0 then sgV x.s x.a n else 0
def go (x : RS) (n : Int) : RS := if x.e = 0 then ⟨plS x.s x.a n, plA x.s x.a n, plE x.s.size x.a n⟩ else x
/-- so many numbers -/
def on (x : RS) (n : Int) : Nat → RS
  | 0 => x
  | k + 1 => (on x n k).go n
def l (x : RS) (n : Int) : Nat → List Int
  | 0 => []
  | k + 1 => l x n k ++ [(on x n k).sg n]
def cells (x : RS) : Array Value := #[.string x.s, .int .i64 x.a, .int .i64 x.e]
theorem l_len (x : RS) (n : Int) (k : Nat) : (x.l n k).length = k := by
  induction k with
  | zero => rfl
  | succ k ih => simp [l, ih]
theorem on_succ (x : RS) (n : Int) (k : Nat) : x.on n (k + 1) = (x.go n).on n k := by
  induction k with
  | zero => rfl
  | succ k ih => rw [on, ih]; rfl
theorem l_succ (x : RS) (n : Int) (k : Nat) : x.l n (k + 1) = x.sg n :: (x.go n).l n k := by
  induction k with
  | zero => rfl
  | succ k ih => rw [l, ih, l, on_succ]; rfl
theorem on_add (x : RS) (n : Int) (j k : Nat) : x.on n (j + k) = (x.on n j).on n k := by
  induction k with
  | zero => rfl
  | succ k ih => rw [← Nat.add_assoc, on, ih]; rfl
theorem l_add (x : RS) (n : Int) (j k : Nat) : x.l n (j + k) = x.l n j ++ (x.on n j).l n k := by
  induction k with
  | zero => simp [l]
  | succ k ih => rw [← Nat.add_assoc, l, ih, l, on_add, List.append_assoc]
theorem go_size (x : RS) (n : Int) {m : Nat} (h : x.s.size ≤ m) : (x.go n).s.size ≤ m := by
  unfold go
  split
  · show (plS x.s x.a n).size ≤ m
    unfold plS
    split
    · exact h
    · exact Nat.zero_le _
  · exact h
theorem on_size (x : RS) (n : Int) (k : Nat) {m : Nat} (h : x.s.size ≤ m) : (x.on n k).s.size ≤ m := by
  induction k with
  | zero => exact h
  | succ k ih => exact go_size _ _ ih
theorem plV_bd (s : ByteArray) (a n : Int) : 0 ≤ plV s a n ∧ plV s a n ≤ 2147483647 ∧ (0 ≤ n → plV s a n < B.P2 n.toNat) := by
  unfold plV
  split
  · rename_i h
    have hn : 0 ≤ n ∧ n ≤ 31 := by
      unfold plE at h
      split at h
      · omega
      · cases h
    have h1 := B.fld_lt s.data.toList a.toNat n.toNat
    have h2 : B.P2 n.toNat ≤ 2147483648 := B.P2_le (b := 31) (by omega)
    omega
  · have := B.P2_pos n.toNat
    omega
theorem sgV_bd (s : ByteArray) (a n : Int) : -2147483648 ≤ sgV s a n ∧ sgV s a n ≤ 2147483647 := by
  have hp := plV_bd s a n
  unfold sgV
  split
  · rename_i h
    have hn : plE s.size a n = 0 := by
      apply Decidable.byContradiction
      intro hh
      have : plV s a n = 0 := if_neg hh
      have := B.P2_pos n.toNat
      omega
    have hn2 : n ≤ 31 := by
      unfold plE at hn
      split at hn
      · omega
      · cases hn
    have h2 : B.P2 n.toNat ≤ 2147483648 := B.P2_le (b := 31) (by omega)
    omega
  · omega
theorem pl_bd (x : RS) (n : Int) : 0 ≤ x.pl n ∧ x.pl n ≤ 2147483647 ∧ (0 ≤ n → x.pl n < B.P2 n.toNat) := by
  unfold pl
  split
  · exact plV_bd _ _ _
  · have := B.P2_pos n.toNat
    omega
theorem sg_bd (x : RS) (n : Int) : -2147483648 ≤ x.sg n ∧ x.sg n ≤ 2147483647 := by
  unfold sg
  split
  · exact sgV_bd _ _ _
  · omega
theorem l_bd (x : RS) (n : Int) (k : Nat) : ∀ v ∈ x.l n k, -2147483648 ≤ v ∧ v ≤ 2147483647 := by
  induction k with
  | zero => intro v hv; simp [l] at hv
  | succ k ih =>
    intro v hv
    rw [l, List.mem_append] at hv
    rcases hv with hv | hv
    · exact ih v hv
    · rw [List.mem_singleton] at hv; rw [hv]; exact sg_bd _ _
/-- at the end: the reader behind, aligned; an error, if what was read is not right -/
def fin (x : RS) (b : Bool) : RS := if x.e = 0 then (if b = true then ⟨x.s, alA x.s.size x.a, 0⟩ else ⟨⟨#[]⟩, 0, 3⟩) else ⟨⟨#[]⟩, 0, x.e⟩
/-- from a whole byte on -/
def begP (s : ByteArray) (a : Int) : RS := ⟨s, alA s.size a, 0⟩
def begR (s : ByteArray) (a : Int) : RS := if 0 ≤ a ∧ a ≤ 8 * s.size then ⟨s, alA s.size a, 0⟩ else ⟨⟨#[]⟩, 0, 1⟩
theorem beg_eq (s : ByteArray) (a n : Int) : (begR s a).pl n = (begP s a).pl n ∧ (begR s a).go n = (begP s a).go n := by
  unfold begR
  split
  · exact ⟨rfl, rfl⟩
  · rename_i h
    have e : plE s.size (alA s.size a) n = 1 := by
      have ea : alA s.size a = a := if_neg h
      rw [ea]
      unfold plE
      rw [if_neg (by omega)]
    have h1 : ∀ y : Int, (⟨⟨#[]⟩, 0, 1⟩ : RS).pl y = 0 := fun y => if_neg (by decide)
    have h2 : ∀ y : Int, (⟨⟨#[]⟩, 0, 1⟩ : RS).go y = ⟨⟨#[]⟩, 0, 1⟩ := fun y => if_neg (by decide)
    rw [h1, h2]
    unfold begP pl go
    simp only [if_true]
    unfold plV plS plA
    rw [e]
    exact ⟨rfl, rfl⟩
end RS
end Go.Proofs.Ytpeknlablcgchaa
