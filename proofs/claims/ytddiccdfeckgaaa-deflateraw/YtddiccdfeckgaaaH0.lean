import Derived.Test.YtddiccdfeckgaaaBi0
/- Plain facts on lengths and the codes of bits that they have. -/
namespace Go.Proofs.Ytddiccdfeckgaaa.Hf
set_option linter.unusedVariables false
open Go.Proofs.Ytddiccdfeckgaaa.B (P2 P2_zero P2_succ P2_pos P2_add P2_le P2_lt P2_sub)

/-- how many codes of n bits there are -/
def cn (zs : List Int) (n : Nat) : Nat := if n = 0 then 0 else zs.countP (fun z => z == (n : Int))
theorem cn_zero (zs : List Int) : cn zs 0 = 0 := rfl
theorem cn_nil (n : Nat) : cn [] n = 0 := by unfold cn; split <;> simp
theorem cn_snoc (zs : List Int) (z : Int) (n : Nat) : cn (zs ++ [z]) n = cn zs n + if 0 < n ∧ z = (n : Int) then 1 else 0 := by
  unfold cn
  by_cases h0 : n = 0
  · rw [if_pos h0, if_pos h0, if_neg (by omega)]
  · rw [if_neg h0, if_neg h0, List.countP_append, List.countP_cons, List.countP_nil]
    by_cases h : z = (n : Int)
    · rw [if_pos (by simp [h]), if_pos ⟨by omega, h⟩]
    · rw [if_neg (by simp [h]), if_neg (by simp [h])]
theorem cn_take (zs : List Int) (k n : Nat) (h : k < zs.length) : cn (zs.take (k + 1)) n = cn (zs.take k) n + if 0 < n ∧ zs[k] = (n : Int) then 1 else 0 := by
  rw [List.take_succ_eq_append_getElem h, cn_snoc]
theorem cn_mono (zs : List Int) (n i j : Nat) (h : i ≤ j) (hj : j ≤ zs.length) : cn (zs.take i) n ≤ cn (zs.take j) n := by
  induction j with
  | zero => have : i = 0 := by omega
            subst this; exact Nat.le_refl _
  | succ j ih =>
    by_cases e : i = j + 1
    · subst e; exact Nat.le_refl _
    · have := ih (by omega) (by omega)
      rw [cn_take zs j n (by omega)]
      omega
theorem cn_le (zs : List Int) (n i : Nat) (h : i ≤ zs.length) : cn (zs.take i) n ≤ cn zs n := by
  have := cn_mono zs n i zs.length h (Nat.le_refl _)
  rwa [List.take_length] at this
theorem cn_lt (zs : List Int) (i : Nat) (h : i < zs.length) (h0 : 0 < zs[i]) : cn (zs.take i) zs[i].toNat < cn zs zs[i].toNat := by
  have h1 := cn_le zs zs[i].toNat (i + 1) (by omega)
  rw [cn_take zs i _ h, if_pos ⟨by omega, by omega⟩] at h1
  omega
theorem cn_lt2 (zs : List Int) (i j : Nat) (hij : i < j) (h : j < zs.length) (h0 : 0 < zs[i]) : cn (zs.take i) zs[i].toNat < cn (zs.take j) zs[i].toNat := by
  have h1 := cn_mono zs zs[i].toNat (i + 1) j (by omega) (by omega)
  rw [cn_take zs i _ (by omega), if_pos ⟨by omega, by omega⟩] at h1
  omega
theorem cn_len (zs : List Int) (n : Nat) : cn zs n ≤ zs.length := by
  unfold cn; split
  · omega
  · exact List.countP_le_length
/-- each place among those of one length is some symbol's -/
theorem rank_sur (zs : List Int) (n j : Nat) (h : j < cn zs n) : ∃ k, ∃ hk : k < zs.length, zs[k] = (n : Int) ∧ 0 < n ∧ cn (zs.take k) n = j := by
  have H : ∀ m, m ≤ zs.length → j < cn (zs.take m) n → ∃ k, ∃ hk : k < zs.length, zs[k] = (n : Int) ∧ 0 < n ∧ cn (zs.take k) n = j := by
    intro m
    induction m with
    | zero => intro _ h; rw [List.take_zero, cn_nil] at h; omega
    | succ m ih =>
      intro hm h
      by_cases hj : j < cn (zs.take m) n
      · exact ih (by omega) hj
      · rw [cn_take zs m n (by omega)] at h
        by_cases hc : 0 < n ∧ zs[m] = (n : Int)
        · rw [if_pos hc] at h
          exact ⟨m, by omega, hc.2, hc.1, by omega⟩
        · rw [if_neg hc] at h
          omega
  exact H zs.length (Nat.le_refl _) (by rwa [List.take_length])

/-- where the codes of n bits begin among all; their first one; what shorter ones take -/
def st (zs : List Int) : Nat → Nat
  | 0 => 0
  | n + 1 => st zs n + cn zs n
def fs (zs : List Int) : Nat → Nat
  | 0 => 0
  | n + 1 => 2 * (fs zs n + cn zs n)
def sk (zs : List Int) : Nat → Nat
  | 0 => 0
  | n + 1 => sk zs n + cn zs n * P2 (15 - n)
theorem st_succ (zs : List Int) (n : Nat) : st zs (n + 1) = st zs n + cn zs n := rfl
theorem fs_succ (zs : List Int) (n : Nat) : fs zs (n + 1) = 2 * (fs zs n + cn zs n) := rfl
theorem sk_succ (zs : List Int) (n : Nat) : sk zs (n + 1) = sk zs n + cn zs n * P2 (15 - n) := rfl
theorem st_mono (zs : List Int) {a b : Nat} (h : a ≤ b) : st zs a ≤ st zs b := by
  induction b with
  | zero => have : a = 0 := by omega
            subst this; exact Nat.le_refl _
  | succ b ih =>
    by_cases e : a = b + 1
    · subst e; exact Nat.le_refl _
    · have := ih (by omega); rw [st_succ]; omega
theorem sk_mono (zs : List Int) {a b : Nat} (h : a ≤ b) : sk zs a ≤ sk zs b := by
  induction b with
  | zero => have : a = 0 := by omega
            subst this; exact Nat.le_refl _
  | succ b ih =>
    by_cases e : a = b + 1
    · subst e; exact Nat.le_refl _
    · have := ih (by omega); rw [sk_succ]; omega
theorem fs_sk (zs : List Int) (n : Nat) (h : n ≤ 15) : fs zs n * P2 (15 - n) = sk zs n := by
  induction n with
  | zero => simp [fs, sk]
  | succ n ih =>
    have e : P2 (15 - n) = 2 * P2 (15 - (n + 1)) := by rw [← P2_succ]; congr 1; omega
    have := ih (by omega)
    rw [fs_succ, sk_succ, ← this, e, ← Nat.add_mul, Nat.mul_comm 2 (fs zs n + cn zs n), Nat.mul_assoc]
theorem fs_cn_sk (zs : List Int) (n : Nat) (h : n ≤ 15) : (fs zs n + cn zs n) * P2 (15 - n) = sk zs (n + 1) := by
  rw [Nat.add_mul, fs_sk zs n h, sk_succ]
theorem snoc_induct {p : List Int → Prop} (h0 : p []) (h1 : ∀ l b, p l → p (l ++ [b])) (l : List Int) : p l := by
  have H : ∀ n (l : List Int), l.length = n → p l := by
    intro n
    induction n with
    | zero => intro l h; rw [List.length_eq_zero_iff.1 h]; exact h0
    | succ n ih =>
      intro l h
      have hne : l ≠ [] := by intro e; rw [e] at h; simp at h
      rw [← List.dropLast_concat_getLast hne]
      exact h1 _ _ (ih _ (by simp [h]))
  exact H _ l rfl
theorem st_snoc (zs : List Int) (z : Int) (N : Nat) : st (zs ++ [z]) N = st zs N + if 0 < z ∧ z < (N : Int) then 1 else 0 := by
  induction N with
  | zero => rw [if_neg (by omega)]; rfl
  | succ N ih =>
    rw [st_succ, st_succ, ih, cn_snoc]
    by_cases h1 : 0 < N ∧ z = (N : Int)
    · rw [if_neg (by omega), if_pos h1, if_pos (by omega)]; omega
    · rw [if_neg h1]
      by_cases h2 : 0 < z ∧ z < (N : Int)
      · rw [if_pos h2, if_pos (by omega)]; omega
      · rw [if_neg h2, if_neg (by omega)]; omega
theorem sk_snoc (zs : List Int) (z : Int) (N : Nat) : sk (zs ++ [z]) N = sk zs N + if 0 < z ∧ z < (N : Int) then P2 (15 - z.toNat) else 0 := by
  induction N with
  | zero => rw [if_neg (by omega)]; rfl
  | succ N ih =>
    rw [sk_succ, sk_succ, ih, cn_snoc]
    by_cases h1 : 0 < N ∧ z = (N : Int)
    · rw [if_neg (by omega), if_pos h1, if_pos (by omega), Nat.add_mul, Nat.one_mul, h1.2, Int.toNat_natCast]; omega
    · rw [if_neg h1]
      by_cases h2 : 0 < z ∧ z < (N : Int)
      · rw [if_pos h2, if_pos (by omega)]; simp only [Nat.add_zero]; omega
      · rw [if_neg h2, if_neg (by omega)]; simp only [Nat.add_zero]
theorem st_nil (N : Nat) : st [] N = 0 := by
  induction N with
  | zero => rfl
  | succ N ih => rw [st_succ, ih, cn_nil]
theorem sk_nil (N : Nat) : sk [] N = 0 := by
  induction N with
  | zero => rfl
  | succ N ih => rw [sk_succ, ih, cn_nil, Nat.zero_mul]
theorem st_take (zs : List Int) (k N : Nat) (h : k < zs.length) : st (zs.take (k + 1)) N = st (zs.take k) N + if 0 < zs[k] ∧ zs[k] < (N : Int) then 1 else 0 := by
  rw [List.take_succ_eq_append_getElem h, st_snoc]
theorem sk_take (zs : List Int) (k N : Nat) (h : k < zs.length) : sk (zs.take (k + 1)) N = sk (zs.take k) N + if 0 < zs[k] ∧ zs[k] < (N : Int) then P2 (15 - zs[k].toNat) else 0 := by
  rw [List.take_succ_eq_append_getElem h, sk_snoc]
theorem st_len (zs : List Int) (N : Nat) : st zs N ≤ zs.length := by
  induction zs using snoc_induct with
  | h0 => rw [st_nil]; exact Nat.zero_le _
  | h1 l z ih => rw [st_snoc, List.length_append, List.length_singleton]; split <;> omega
theorem sk_len (zs : List Int) (N : Nat) : sk zs N ≤ zs.length * 32768 := by
  induction zs using snoc_induct with
  | h0 => rw [sk_nil]; exact Nat.zero_le _
  | h1 l z ih =>
    rw [sk_snoc, List.length_append, List.length_singleton, Nat.add_mul, Nat.one_mul]
    have : P2 (15 - z.toNat) ≤ 32768 := P2_le (b := 15) (by omega)
    generalize P2 (15 - z.toNat) = q at *
    generalize l.length * 32768 = r at *
    split <;> omega
theorem fs_len (zs : List Int) (n : Nat) (h : n ≤ 15) : fs zs n ≤ zs.length * 32768 := by
  have h1 := fs_sk zs n h
  have h2 := sk_len zs n
  have h3 : fs zs n * 1 ≤ fs zs n * P2 (15 - n) := Nat.mul_le_mul_left _ (P2_pos _)
  omega
theorem cn_st (zs : List Int) (n N : Nat) (h : n < N) : cn zs n ≤ st zs N := by
  have := st_mono zs (a := n + 1) (b := N) (by omega)
  rw [st_succ] at this
  omega
theorem st_cn_le (zs : List Int) (n N : Nat) (h : n < N) : st zs n + cn zs n ≤ st zs N := by
  have := st_mono zs (a := n + 1) (b := N) (by omega)
  rwa [st_succ] at this
/-- shorter codes come ahead of all longer ones -/
theorem fs_up (zs : List Int) (m d : Nat) : (fs zs m + cn zs m) * P2 (d + 1) ≤ fs zs (m + (d + 1)) := by
  induction d with
  | zero => rw [show P2 (0 + 1) = 2 from rfl, fs_succ]; omega
  | succ d ih =>
    rw [P2_succ, show m + (d + 1 + 1) = (m + (d + 1)) + 1 from by omega, fs_succ, Nat.mul_left_comm]
    omega

/-- the code of a symbol -/
def cd (zs : List Int) (i : Nat) : Nat := if zs.getD i 0 = 0 then 0 else fs zs (zs.getD i 0).toNat + cn (zs.take i) (zs.getD i 0).toNat
theorem getD_eq (zs : List Int) (i : Nat) (h : i < zs.length) : zs.getD i 0 = zs[i] := by rw [List.getD_eq_getElem?_getD, List.getElem?_eq_getElem h]; rfl
theorem cd_pos (zs : List Int) (i : Nat) (h : i < zs.length) (h0 : 0 < zs[i]) : cd zs i = fs zs zs[i].toNat + cn (zs.take i) zs[i].toNat := by
  unfold cd; rw [getD_eq zs i h, if_neg (by omega)]
theorem cd_zero (zs : List Int) (i : Nat) (h : i < zs.length) (h0 : zs[i] = 0) : cd zs i = 0 := by
  unfold cd; rw [getD_eq zs i h, if_pos h0]

/-- what the codes ahead of symbol i, of n bits, take: of the first k symbols -/
def ah (zs : List Int) (n : Int) (i : Nat) : Nat → Nat
  | 0 => 0
  | k + 1 => ah zs n i k + if 0 < zs.getD k 0 ∧ (zs.getD k 0 < n ∨ zs.getD k 0 = n ∧ k < i) then P2 (15 - (zs.getD k 0).toNat) else 0
theorem ah_eq (zs : List Int) (n i : Nat) (hn : 0 < n) (k : Nat) (h : k ≤ zs.length) (hi : i ≤ zs.length) : ah zs n i k = sk (zs.take k) n + cn (zs.take (min i k)) n * P2 (15 - n) := by
  induction k with
  | zero => simp [ah, sk_nil, cn_nil]
  | succ k ih =>
    have hk : k < zs.length := by omega
    rw [ah, ih (by omega), sk_take zs k n hk, getD_eq zs k hk]
    by_cases hki : k < i
    · rw [show min i (k + 1) = k + 1 by omega, show min i k = k by omega, cn_take zs k n hk]
      by_cases c1 : zs[k] = (n : Int)
      · rw [if_pos (by omega), if_neg (by omega), if_pos (by omega), Nat.add_mul, Nat.one_mul, c1, Int.toNat_natCast]; omega
      · rw [if_neg (c := 0 < n ∧ zs[k] = (n : Int)) (by omega)]
        by_cases c2 : 0 < zs[k] ∧ zs[k] < (n : Int)
        · rw [if_pos (by omega), if_pos c2]; simp only [Nat.add_zero]; omega
        · rw [if_neg (by omega), if_neg c2]; simp only [Nat.add_zero]
    · rw [show min i (k + 1) = i by omega, show min i k = i by omega]
      by_cases c2 : 0 < zs[k] ∧ zs[k] < (n : Int)
      · rw [if_pos (by omega), if_pos c2]; omega
      · rw [if_neg (by omega), if_neg c2]; omega
theorem ah_cd (zs : List Int) (i : Nat) (h : i < zs.length) (h0 : 0 < zs[i]) (h1 : zs[i] ≤ 15) : ah zs zs[i] i zs.length / P2 (15 - zs[i].toNat) = cd zs i := by
  have e := ah_eq zs zs[i].toNat i (by omega) zs.length (Nat.le_refl _) (by omega)
  rw [show ((zs[i].toNat : Nat) : Int) = zs[i] by omega, List.take_length, show min i zs.length = i by omega, ← fs_sk zs zs[i].toNat (by omega), ← Nat.add_mul] at e
  rw [e, Nat.mul_div_cancel _ (P2_pos _), cd_pos zs i h h0]
theorem ah_le (zs : List Int) (n : Int) (i k : Nat) : ah zs n i k ≤ k * 32768 := by
  induction k with
  | zero => exact Nat.zero_le _
  | succ k ih =>
    rw [ah, Nat.add_mul, Nat.one_mul]
    have : P2 (15 - (zs.getD k 0).toNat) ≤ 32768 := P2_le (b := 15) (by omega)
    generalize P2 (15 - (zs.getD k 0).toNat) = q at *
    generalize k * 32768 = r at *
    split <;> omega

/-- lengths that may be a table -/
def inR (zs : List Int) : Prop := ∀ i (h : i < zs.length), 0 ≤ zs[i] ∧ zs[i] ≤ 15
def tabB (zs : List Int) : Bool := sk zs 16 == 32768 || st zs 16 == 0 || (st zs 16 == 1 && cn zs 1 == 1)
theorem sk_zero (zs : List Int) (N : Nat) : sk zs N = 0 ↔ st zs N = 0 := by
  induction N with
  | zero => simp [sk, st]
  | succ N ih =>
    rw [sk_succ, st_succ]
    have hp := P2_pos (15 - N)
    constructor
    · intro h
      have h1 : sk zs N = 0 := by omega
      have h2 : cn zs N * P2 (15 - N) = 0 := by omega
      rcases Nat.mul_eq_zero.1 h2 with h3 | h3
      · have := ih.1 h1; omega
      · omega
    · intro h
      have h1 : st zs N = 0 := by omega
      have h2 : cn zs N = 0 := by omega
      rw [ih.2 h1, h2, Nat.zero_mul]

theorem st_one (zs : List Int) : (st zs 16 = 1 ∧ cn zs 1 = 1) ↔ (cn zs 1 = 1 ∧ ∀ n, n < 16 → n ≠ 1 → cn zs n = 0) := by
  constructor
  · rintro ⟨h1, h2⟩
    refine ⟨h2, fun n hn h => ?_⟩
    have hz := cn_zero zs
    by_cases hn0 : n = 0
    · rw [hn0, hz]
    · have a1 := st_cn_le zs 1 n (by omega)
      have a2 := st_cn_le zs n 16 hn
      omega
  · rintro ⟨h1, h2⟩
    refine ⟨?_, h1⟩
    have H : ∀ N, 2 ≤ N → N ≤ 16 → st zs N = 1 := by
      intro N
      induction N with
      | zero => intro h; omega
      | succ N ih =>
        intro hN hN2
        rw [st_succ]
        by_cases e : N = 1
        · subst e
          rw [h1, st_succ, cn_zero]
          rfl
        · rw [ih (by omega) (by omega), h2 N (by omega) e]
    exact H 16 (by omega) (by omega)
end Go.Proofs.Ytddiccdfeckgaaa.Hf
