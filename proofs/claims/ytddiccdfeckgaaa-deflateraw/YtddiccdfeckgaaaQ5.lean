import Derived.Test.YtddiccdfeckgaaaU1
/- Layer 6: bits, plain: the lowest first. -/
namespace Go.Proofs.Ytddiccdfeckgaaa.D
set_option linter.unusedVariables false
/-- the number of bits -/
def val : List Nat → Nat
  | [] => 0
  | b :: r => b + 2 * val r
/-- a number's bits -/
def nb (v : Nat) : Nat → List Nat
  | 0 => []
  | n + 1 => v % 2 :: nb (v / 2) n
def two : Nat → Nat
  | 0 => 1
  | n + 1 => 2 * two n
theorem two_pos (n : Nat) : 0 < two n := by
  induction n with
  | zero => show 0 < 1; omega
  | succ n ih => rw [two]; omega
theorem two_pow (n : Nat) : two n = 2 ^ n := by
  induction n with
  | zero => rfl
  | succ n ih => rw [two, ih, Nat.pow_succ]; omega
theorem nb_len (v n : Nat) : (nb v n).length = n := by
  induction n generalizing v with
  | zero => rfl
  | succ n ih => rw [nb, List.length_cons, ih]
theorem val_nb (v n : Nat) (h : v < two n) : val (nb v n) = v := by
  induction n generalizing v with
  | zero => rw [two] at h; rw [nb, val]; omega
  | succ n ih =>
    rw [two] at h
    rw [nb, val, ih (v / 2) (by omega)]
    omega
theorem nb_bit (v n : Nat) : ∀ x ∈ nb v n, x < 2 := by
  induction n generalizing v with
  | zero => intro x hx; cases hx
  | succ n ih =>
    intro x hx
    rw [nb] at hx
    cases hx with
    | head => omega
    | tail _ hx => exact ih _ x hx
theorem val_app (a b : List Nat) : val (a ++ b) = val a + two a.length * val b := by
  induction a with
  | nil => rw [List.nil_append, val, List.length_nil, two]; omega
  | cons x r ih =>
    rw [List.cons_append, val, ih, val, List.length_cons, two, Nat.mul_add, Nat.mul_assoc]
    omega
theorem val_lt (a : List Nat) (h : ∀ x ∈ a, x < 2) : val a < two a.length := by
  induction a with
  | nil => show 0 < 1; omega
  | cons x r ih =>
    have h1 := ih (fun y hy => h y (List.mem_cons_of_mem _ hy))
    have h2 := h x (List.mem_cons_self)
    rw [val, List.length_cons, two]
    omega
/-- the whole bytes of bits -/
def bytesOf (L : List Nat) : List UInt8 :=
  if h : L.length < 8 then [] else UInt8.ofNat (val (L.take 8)) :: bytesOf (L.drop 8)
termination_by L.length
decreasing_by rw [List.length_drop]; omega
def restOf (L : List Nat) : List Nat := L.drop (8 * (L.length / 8))
theorem bytesOf_small {L : List Nat} (h : L.length < 8) : bytesOf L = [] := by rw [bytesOf, dif_pos h]
theorem bytesOf_step {L : List Nat} (h : 8 ≤ L.length) : bytesOf L = UInt8.ofNat (val (L.take 8)) :: bytesOf (L.drop 8) := by rw [bytesOf, dif_neg (by omega)]
theorem restOf_small {L : List Nat} (h : L.length < 8) : restOf L = L := by
  unfold restOf
  rw [show 8 * (L.length / 8) = 0 by omega, List.drop_zero]
theorem restOf_step {L : List Nat} (h : 8 ≤ L.length) : restOf L = restOf (L.drop 8) := by
  unfold restOf
  rw [List.drop_drop, List.length_drop]
  congr 1
  omega
theorem restOf_len (L : List Nat) : (restOf L).length = L.length % 8 := by
  unfold restOf
  rw [List.length_drop]
  omega
theorem restOf_mem {L : List Nat} {x : Nat} (h : x ∈ restOf L) : x ∈ L := List.mem_of_mem_drop h
theorem bytesOf_app (n : Nat) : ∀ (A B : List Nat), A.length ≤ n → bytesOf (A ++ B) = bytesOf A ++ bytesOf (restOf A ++ B) ∧ restOf (A ++ B) = restOf (restOf A ++ B) := by
  induction n with
  | zero =>
    intro A B h
    have : A = [] := List.eq_nil_of_length_eq_zero (by omega)
    subst this
    rw [bytesOf_small (L := []) (by show 0 < 8; omega), restOf_small (L := []) (by show 0 < 8; omega)]
    exact ⟨rfl, rfl⟩
  | succ n ih =>
    intro A B h
    by_cases h8 : A.length < 8
    · rw [bytesOf_small h8, restOf_small h8]
      exact ⟨rfl, rfl⟩
    · have h9 : 8 ≤ A.length := by omega
      have hd : (A ++ B).drop 8 = A.drop 8 ++ B := by rw [List.drop_append_of_le_length h9]
      have ht : (A ++ B).take 8 = A.take 8 := by rw [List.take_append_of_le_length h9]
      have i := ih (A.drop 8) B (by rw [List.length_drop]; omega)
      have hl : 8 ≤ (A ++ B).length := by rw [List.length_append]; omega
      rw [bytesOf_step hl, restOf_step hl, hd, ht, bytesOf_step h9, restOf_step h9, i.1, i.2]
      exact ⟨rfl, rfl⟩
theorem bytesOf_len (n : Nat) : ∀ L : List Nat, L.length ≤ n → (bytesOf L).length = L.length / 8 := by
  induction n with
  | zero =>
    intro L h
    rw [bytesOf_small (by omega), List.length_nil]
    omega
  | succ n ih =>
    intro L h
    by_cases h8 : L.length < 8
    · rw [bytesOf_small h8, List.length_nil]; omega
    · rw [bytesOf_step (by omega), List.length_cons, ih _ (by rw [List.length_drop]; omega), List.length_drop]
      omega
/-- bits, the highest first -/
def hb (v n : Nat) : List Nat := (nb v n).reverse
end Go.Proofs.Ytddiccdfeckgaaa.D
