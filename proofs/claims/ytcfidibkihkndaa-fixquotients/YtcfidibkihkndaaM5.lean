/- Plain facts on sizes written by digits to the base 65536, the lowest first. No program is named here. -/
namespace Go.Proofs.Ytcfidibkihkndaa.M5

def val : List Nat → Nat
  | [] => 0
  | x :: l => x + 65536 * val l
/-- the digit at a place; 0 behind the last one -/
def dg (l : List Nat) (i : Nat) : Nat := l.getD i 0
theorem dg_in (l : List Nat) (i : Nat) (h : i < l.length) : dg l i = l[i] := by simp [dg, h]
theorem dg_out (l : List Nat) (i : Nat) (h : l.length ≤ i) : dg l i = 0 := by simp [dg, h]
theorem dg_zero (x : Nat) (l : List Nat) : dg (x :: l) 0 = x := rfl
theorem dg_succ (x : Nat) (l : List Nat) (i : Nat) : dg (x :: l) (i + 1) = dg l i := rfl
def Dig (l : List Nat) : Prop := ∀ x ∈ l, x < 65536

theorem val_snoc (l : List Nat) (x : Nat) : val (l ++ [x]) = val l + 65536 ^ l.length * x := by
  induction l with
  | nil => simp [val]
  | cons y l ih =>
    simp only [List.cons_append, val, ih, List.length_cons, Nat.pow_succ, Nat.mul_add]
    rw [Nat.mul_comm (65536 ^ l.length) 65536, Nat.mul_assoc]
    omega
theorem val_append (l m : List Nat) : val (l ++ m) = val l + 65536 ^ l.length * val m := by
  induction l with
  | nil => simp [val]
  | cons y l ih =>
    simp only [List.cons_append, val, ih, List.length_cons, Nat.pow_succ, Nat.mul_add]
    rw [Nat.mul_comm (65536 ^ l.length) 65536, Nat.mul_assoc]
    omega
theorem val_lt (l : List Nat) (h : Dig l) : val l < 65536 ^ l.length := by
  induction l with
  | nil => simp [val]
  | cons y l ih =>
    have h1 := ih fun x hx => h x (List.mem_cons_of_mem _ hx)
    have h2 := h y (List.mem_cons_self ..)
    simp only [val, List.length_cons, Nat.pow_succ]
    omega
theorem dig_snoc {l : List Nat} {x : Nat} (h : Dig l) (hx : x < 65536) : Dig (l ++ [x]) := by
  intro y hy
  rcases List.mem_append.1 hy with h1 | h1
  · exact h y h1
  · simp at h1; omega
theorem dig_at {l : List Nat} (h : Dig l) (i : Nat) : dg l i < 65536 := by
  rcases Nat.lt_or_ge i l.length with h1 | h1
  · rw [dg_in _ _ h1]; exact h _ (List.getElem_mem h1)
  · rw [dg_out _ _ h1]; omega
theorem dig_set {l : List Nat} (h : Dig l) (i x : Nat) (hx : x < 65536) : Dig (l.set i x) := by
  intro y hy
  rcases List.mem_or_eq_of_mem_set hy with h1 | h1
  · exact h y h1
  · omega
theorem val_set (l : List Nat) (i x : Nat) (h : i < l.length) : val (l.set i x) + 65536 ^ i * dg l i = val l + 65536 ^ i * x := by
  induction l generalizing i with
  | nil => simp at h
  | cons y l ih =>
    cases i with
    | zero => simp [val, dg_zero]; omega
    | succ i =>
      simp only [List.length_cons] at h
      have := ih i (by omega)
      simp only [List.set_cons_succ, val, dg_succ, Nat.pow_succ]
      rw [Nat.mul_comm (65536 ^ i) 65536, Nat.mul_assoc, Nat.mul_assoc]
      omega
theorem val_take (l : List Nat) (k : Nat) (h : k < l.length) : val (l.take (k + 1)) = val (l.take k) + 65536 ^ k * dg l k := by
  rw [List.take_succ_eq_append_getElem h, val_snoc, List.length_take, Nat.min_eq_left (by omega), dg_in _ _ h]
theorem val_drop (l : List Nat) (k : Nat) (h : k < l.length) : val (l.drop k) = dg l k + 65536 * val (l.drop (k + 1)) := by
  rw [List.drop_eq_getElem_cons h, val, dg_in _ _ h]
theorem val_split (l : List Nat) (k : Nat) (h : k ≤ l.length) : val l = val (l.take k) + 65536 ^ k * val (l.drop k) := by
  have := val_append (l.take k) (l.drop k)
  rw [List.take_append_drop, List.length_take, Nat.min_eq_left h] at this
  exact this
theorem val_zeros (n : Nat) : val (List.replicate n 0) = 0 := by
  induction n with
  | zero => rfl
  | succ n ih => simp [List.replicate_succ, val, ih]
theorem dig_zeros (n : Nat) : Dig (List.replicate n 0) := by
  intro x hx
  have := List.eq_of_mem_replicate hx
  omega
theorem dig_take {l : List Nat} (h : Dig l) (k : Nat) : Dig (l.take k) := fun x hx => h x (List.mem_of_mem_take hx)
theorem dig_drop {l : List Nat} (h : Dig l) (k : Nat) : Dig (l.drop k) := fun x hx => h x (List.mem_of_mem_drop hx)
theorem val_eq_zero (l : List Nat) : val l = 0 ↔ ∀ i, i < l.length → dg l i = 0 := by
  induction l with
  | nil => simp [val]
  | cons y l ih =>
    simp only [val, List.length_cons]
    constructor
    · intro h i hi
      cases i with
      | zero => rw [dg_zero]; omega
      | succ i => simp only [dg_succ]; exact ih.1 (by omega) i (by omega)
    · intro h
      have h0 := h 0 (by omega)
      rw [dg_zero] at h0
      have := ih.2 fun i hi => by have := h (i + 1) (by omega); rwa [dg_succ] at this
      omega
/-- two sizes of one length, held from the top -/
theorem val_lt_of_top (a b : List Nat) (k : Nat) (hl : a.length = b.length) (ha : Dig a) (hk : k < a.length) (hd : a.drop (k + 1) = b.drop (k + 1)) (h : dg a k < dg b k) : val a < val b := by
  rw [val_split a (k + 1) (by omega), val_split b (k + 1) (by omega), hd, val_take a k hk, val_take b k (by omega)]
  have h1 : val (a.take k) < 65536 ^ k := by
    have := val_lt (a.take k) (dig_take ha k)
    rwa [List.length_take, Nat.min_eq_left (by omega)] at this
  have h2 : 65536 ^ k * (dg a k + 1) ≤ 65536 ^ k * dg b k := Nat.mul_le_mul (Nat.le_refl _) h
  rw [Nat.mul_add] at h2
  omega
theorem drop_step (a b : List Nat) (k : Nat) (hl : a.length = b.length) (hk : k < a.length) (hd : a.drop (k + 1) = b.drop (k + 1)) (h : dg a k = dg b k) : a.drop k = b.drop k := by
  have hb : k < b.length := by omega
  rw [List.drop_eq_getElem_cons hk, List.drop_eq_getElem_cons hb, hd]
  rw [dg_in _ _ hk, dg_in b k (by omega)] at h
  rw [h]
theorem val_drop_le (l : List Nat) (k : Nat) : val (l.drop k) ≤ val l := by
  rcases Nat.lt_or_ge k l.length with h | h
  · rw [val_split l k (by omega)]
    have : 1 * val (l.drop k) ≤ 65536 ^ k * val (l.drop k) := Nat.mul_le_mul (Nat.pow_pos (by omega)) (Nat.le_refl _)
    omega
  · rw [List.drop_of_length_le h]; simp [val]
theorem val_high (l : List Nat) (k : Nat) (hk : k < l.length) (h4 : 4 ≤ k) (hx : dg l k ≠ 0) : 18446744073709551616 ≤ val l := by
  rw [val_split l k (by omega)]
  have h1 : 1 ≤ val (l.drop k) := by rw [val_drop l k hk]; omega
  have h2 : 65536 ^ 4 ≤ 65536 ^ k := Nat.pow_le_pow_right (by omega) h4
  have h3 : 65536 ^ 4 * 1 ≤ 65536 ^ k * val (l.drop k) := Nat.mul_le_mul h2 h1
  have h4 : 65536 ^ 4 = 18446744073709551616 := by decide
  omega
/-- the number of a size, with a sign; none if it is too great -/
def sgn (m : Bool) (v : Nat) : Int := if m then -(v : Int) else (v : Int)
def fit (x : Int) : Bool := decide (-9223372036854775808 ≤ x) && decide (x ≤ 9223372036854775807)
def num (x : Int) : Int := if fit x then x else 0
theorem fit_big (m : Bool) (v : Nat) (h : 9223372036854775808 < v) : fit (sgn m v) = false := by
  cases m <;> simp [fit, sgn] <;> omega
theorem num_big (m : Bool) (v : Nat) (h : 9223372036854775808 < v) : num (sgn m v) = 0 := by
  unfold num; rw [fit_big m v h]; rfl
theorem dg_set_ne (l : List Nat) (i j x : Nat) (h : j ≠ i) : dg (l.set i x) j = dg l j := by
  unfold dg
  simp [List.getElem?_set_ne (Ne.symm h)]
theorem dg_zeros (n i : Nat) : dg (List.replicate n 0) i = 0 := by
  unfold dg
  simp [List.getElem?_replicate]
  split <;> rfl
/-- one step of a row by a digit: at place j -/
theorem step_set (l : List Nat) (j s2 x p lf : Nat) (hj : j < l.length) (hx : dg l j = x) (hs : s2 = x + p + lf) :
    val (l.set j (s2 % 65536)) + s2 / 65536 * 65536 ^ (j + 1) = val l + lf * 65536 ^ j + p * 65536 ^ j := by
  have h := val_set l j (s2 % 65536) hj
  rw [hx] at h
  have e : 65536 ^ j * (s2 % 65536) + s2 / 65536 * 65536 ^ (j + 1) = 65536 ^ j * s2 := by
    rw [Nat.pow_succ, Nat.mul_comm (65536 ^ j) 65536, ← Nat.mul_assoc, Nat.mul_comm (s2 / 65536 * 65536), ← Nat.mul_add]
    congr 1
    omega
  have e2 : 65536 ^ j * s2 = 65536 ^ j * x + (p * 65536 ^ j + lf * 65536 ^ j) := by
    rw [hs, Nat.mul_add, Nat.mul_add, Nat.mul_comm p, Nat.mul_comm lf]; omega
  omega
end Go.Proofs.Ytcfidibkihkndaa.M5
