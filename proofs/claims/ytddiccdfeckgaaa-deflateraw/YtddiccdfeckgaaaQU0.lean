import Derived.Test.YtddiccdfeckgaaaQT
import Derived.Test.YtddiccdfeckgaaaQ4
/- Layer 6, plain: the document's symbols; bytes of bits. -/
namespace Go.Proofs.Ytddiccdfeckgaaa.D
set_option linter.unusedVariables false
theorem bytesOf_get : ∀ (j : Nat) (L : List Nat), 8 * j + 8 ≤ L.length → (bytesOf L)[j]? = some (UInt8.ofNat (val ((L.drop (8 * j)).take 8)))
  | 0, L, h => by rw [bytesOf_step (by omega)]; rfl
  | j + 1, L, h => by
    rw [bytesOf_step (by omega), List.getElem?_cons_succ, bytesOf_get j (L.drop 8) (by rw [List.length_drop]; omega), List.drop_drop]
    congr 5
    omega
/-- a fixed code: how many bits, and which -/
def cA (n : Nat) : Nat × Nat := if n < 144 then (48 + n, 8) else if n < 256 then (256 + n, 9) else if n < 280 then (n - 256, 7) else (n - 88, 8)
theorem sc_cA (n : Nat) : sc n = hb (cA n).1 (cA n).2 := by
  unfold sc cA
  split
  · rfl
  · split
    · rfl
    · split <;> rfl
theorem fixA_all : ∀ n : Fin 288, (I.fixA[(n : Nat)]'(by rw [fixA_len]; exact n.2)) = ((cA n).2 : Int) ∧ Hf.cd I.fixA n = (cA n).1 ∧ 0 < (cA n).2 ∧ (cA n).2 ≤ 15 := by decide +kernel
theorem fixD_all : ∀ n : Fin 32, (I.fixD[(n : Nat)]'(by rw [fixD_len]; exact n.2)) = 5 ∧ Hf.cd I.fixD n = n := by decide +kernel
theorem ln_ok : ∀ v : Fin 255, (I.ln (sS v 3)).2 = sN v 3 ∧ (I.ln (sS v 3)).1 + sR v 3 = v + 3 ∧ sS v 3 < 28 := by decide +kernel
theorem ds_tab : ∀ (k : Fin 14) (q : Fin 2), 0 < (k : Nat) → I.ds (2 * k + (2 + q)) = ((2 + q) * two k + 1, (k : Nat)) ∧ 2 * (k : Nat) + (2 + q) < 30 := by decide +kernel
theorem ds_low : ∀ v : Fin 4, I.ds v = ((v : Nat) + 1, 0) := by decide +kernel
theorem len_ge (v : Nat) (h : v < 65536) (h0 : 0 < Lib.bitLen v) : two (Lib.bitLen v - 1) ≤ v := by
  refine Nat.le_of_not_lt fun hlt => ?_
  rw [two_pow] at hlt
  have := Lib.bitLen_le v (Lib.bitLen v - 1) (by have := Lib.bitLen_le v 16 (by omega) h; omega) hlt
  omega
theorem ds_ok (v : Nat) (h : v < 32768) : (I.ds (sS v 2)).2 = sN v 2 ∧ (I.ds (sS v 2)).1 + sR v 2 = v + 1 ∧ sS v 2 < 30 := by
  have hlt := lt_len v (by omega)
  have h15 := Lib.bitLen_le v 15 (by omega) (by omega)
  by_cases hk : sN v 2 = 0
  · have hL : Lib.bitLen v ≤ 2 := by unfold sN at hk; omega
    have h4 : v < 4 := by
      have h2 : two (Lib.bitLen v) ≤ two 2 := by rw [two_pow, two_pow]; exact Nat.pow_le_pow_right (by omega) hL
      have h3 : two 2 = 4 := by decide
      omega
    have hS : sS v 2 = v := by unfold sS; rw [hk]; show 2 * 0 + v / 1 = v; omega
    have hR : sR v 2 = 0 := by unfold sR; rw [hk]; show v % 1 = 0; omega
    have ht := ds_low ⟨v, h4⟩
    have ht : I.ds v = (v + 1, 0) := ht
    rw [hS, hR, hk, ht]
    exact ⟨rfl, rfl, by omega⟩
  · obtain ⟨k, hkk⟩ : ∃ k, k = sN v 2 := ⟨_, rfl⟩
    have hL : Lib.bitLen v = k + 2 := by unfold sN at hkk hk; omega
    have h1 : two (k + 1) ≤ v := by have := len_ge v (by omega) (by omega); rw [hL] at this; exact this
    have h2 : v < two (k + 2) := by rw [← hL]; exact hlt
    rw [two] at h1
    rw [two, two] at h2
    have hp := two_pos k
    obtain ⟨q, hq⟩ : ∃ q, q = v / two k := ⟨_, rfl⟩
    have hq2 : 2 ≤ q := by rw [hq]; exact (Nat.le_div_iff_mul_le hp).2 (by omega)
    have hq4 : q < 4 := by rw [hq]; exact (Nat.div_lt_iff_lt_mul hp).2 (by omega)
    have hdm := Nat.div_add_mod v (two k)
    have hS : sS v 2 = 2 * k + q := by unfold sS; rw [← hkk, ← hq]; rfl
    have hR : sR v 2 = v % two k := by unfold sR; rw [← hkk]
    have ht := ds_tab ⟨k, by omega⟩ ⟨q - 2, by omega⟩ (by show 0 < k; omega)
    have e2 : 2 + (q - 2) = q := by omega
    have ht1 : I.ds (2 * k + (2 + (q - 2))) = ((2 + (q - 2)) * two k + 1, k) := ht.1
    have ht2 : 2 * k + (2 + (q - 2)) < 30 := ht.2
    rw [e2] at ht1 ht2
    rw [hS, hR, ← hkk, ht1]
    refine ⟨rfl, ?_, ht2⟩
    rw [← hq] at hdm
    have : q * two k = two k * q := Nat.mul_comm _ _
    show q * two k + 1 + v % two k = v + 1
    omega
theorem bits_all (s : ByteArray) : ∀ x ∈ allB s ++ fl (allB s), x < 2 := by
  have hsc : ∀ n, ∀ x ∈ sc n, x < 2 := fun n x hx => by rw [sc_cA] at hx; exact hb_bit _ _ x hx
  have hlb : ∀ n, ∀ x ∈ lb n, x < 2 := fun n x hx => by
    unfold lb at hx
    split at hx
    · exact hsc _ x hx
    · rw [List.mem_append] at hx
      rcases hx with hx | hx
      · exact hsc _ x hx
      · exact nb_bit _ _ x hx
  have hdb : ∀ n, ∀ x ∈ db n, x < 2 := fun n x hx => by
    unfold db at hx
    rw [List.mem_append] at hx
    rcases hx with hx | hx
    · exact hb_bit _ _ x hx
    · exact nb_bit _ _ x hx
  have htk : ∀ f a, ∀ x ∈ toks s f a, x < 2 := fun f => by
    induction f with
    | zero => intro a x hx; cases hx
    | succ f ih =>
      intro a x hx
      rw [toks] at hx
      split at hx
      · rw [List.mem_append] at hx
        rcases hx with hx | hx
        · unfold tok at hx
          split at hx
          · exact hsc _ x hx
          · rw [List.mem_append] at hx
            rcases hx with hx | hx
            · exact hlb _ x hx
            · exact hdb _ x hx
        · exact ih _ x hx
      · cases hx
  intro x hx
  rw [List.mem_append] at hx
  rcases hx with hx | hx
  · unfold allB at hx
    rw [List.mem_append, List.mem_append] at hx
    rcases hx with (hx | hx) | hx
    · simp only [List.mem_cons, List.not_mem_nil, or_false] at hx
      omega
    · exact htk _ _ x hx
    · exact hsc _ x hx
  · unfold fl at hx
    split at hx
    · cases hx
    · exact nb_bit _ _ x hx
/-- the symbol of a length, less 257 -/
def lS (n : Nat) : Nat := if n = 258 then 28 else sS (n - 3) 3
theorem lS_all : ∀ v : Fin 256, lS (v + 3) < 29 ∧ (I.ln (lS (v + 3))).1 ≤ v + 3 ∧ (∀ k : Fin 29, (I.ln k).1 ≤ (v : Nat) + 3 ↔ (k : Nat) ≤ lS (v + 3)) ∧ (if (v : Nat) + 3 = 258 then v + 3 - (I.ln (lS (v + 3))).1 = 0 ∧ (I.ln (lS (v + 3))).2 = 0 else v + 3 - (I.ln (lS (v + 3))).1 = sR v 3 ∧ (I.ln (lS (v + 3))).2 = sN v 3) := by decide +kernel
theorem lS_ok (n : Nat) (h3 : 3 ≤ n) (h9 : n ≤ 258) : lS n < 29 ∧ (I.ln (lS n)).1 ≤ n ∧ (∀ k, k < 29 → ((I.ln k).1 ≤ n ↔ k ≤ lS n)) ∧ lb n = sc (257 + lS n) ++ nb (n - (I.ln (lS n)).1) (I.ln (lS n)).2 := by
  obtain ⟨v, rfl⟩ : ∃ v, n = v + 3 := ⟨n - 3, by omega⟩
  obtain ⟨h1, h2, h4, h5⟩ := lS_all ⟨v, by omega⟩
  have h1 : lS (v + 3) < 29 := h1
  have h2 : (I.ln (lS (v + 3))).1 ≤ v + 3 := h2
  refine ⟨h1, h2, fun k hk => h4 ⟨k, hk⟩, ?_⟩
  have h5 : if v + 3 = 258 then v + 3 - (I.ln (lS (v + 3))).1 = 0 ∧ (I.ln (lS (v + 3))).2 = 0 else v + 3 - (I.ln (lS (v + 3))).1 = sR v 3 ∧ (I.ln (lS (v + 3))).2 = sN v 3 := h5
  by_cases e : v + 3 = 258
  · rw [if_pos e] at h5
    rw [h5.1, h5.2]
    unfold lb lS
    rw [if_pos e, if_pos e]
    exact (List.append_nil _).symm
  · rw [if_neg e] at h5
    rw [h5.1, h5.2]
    unfold lb lS
    rw [if_neg e, if_neg e]
    rfl
theorem ds_step : ∀ j : Fin 29, (I.ds j).1 + two (I.ds j).2 = (I.ds ((j : Nat) + 1)).1 := by decide +kernel
theorem ds_mono : ∀ (i j : Fin 30), i ≤ j → (I.ds i).1 ≤ (I.ds j).1 := by decide +kernel
theorem dS_ok (d : Nat) (h1 : 1 ≤ d) (h9 : d ≤ 32768) : sS (d - 1) 2 < 30 ∧ (I.ds (sS (d - 1) 2)).1 ≤ d ∧ (∀ k, k < 30 → ((I.ds k).1 ≤ d ↔ k ≤ sS (d - 1) 2)) ∧ d - (I.ds (sS (d - 1) 2)).1 = sR (d - 1) 2 ∧ (I.ds (sS (d - 1) 2)).2 = sN (d - 1) 2 := by
  obtain ⟨a1, a2, a3⟩ := ds_ok (d - 1) (by omega)
  have hr := sR_lt (d - 1) 2
  refine ⟨a3, by omega, fun k hk => ?_, by omega, a1⟩
  constructor
  · intro h
    refine Nat.le_of_not_lt fun hlt => ?_
    have m1 := ds_mono ⟨sS (d - 1) 2 + 1, by omega⟩ ⟨k, hk⟩ hlt
    have m1 : (I.ds (sS (d - 1) 2 + 1)).1 ≤ (I.ds k).1 := m1
    have m2 := ds_step ⟨sS (d - 1) 2, by omega⟩
    have m2 : (I.ds (sS (d - 1) 2)).1 + two (I.ds (sS (d - 1) 2)).2 = (I.ds (sS (d - 1) 2 + 1)).1 := m2
    rw [a1] at m2
    omega
  · intro h
    have m1 := ds_mono ⟨k, hk⟩ ⟨sS (d - 1) 2, a3⟩ h
    have m1 : (I.ds k).1 ≤ (I.ds (sS (d - 1) 2)).1 := m1
    omega
/-- the bytes of the first i bits, as many as there will be -/
def pkF (L : List Nat) (m i : Nat) : List UInt8 := (List.range m).map fun j => UInt8.ofNat (val (((L.take i).drop (8 * j)).take 8))
theorem pkF_zero (L : List Nat) (m : Nat) : pkF L m 0 = List.replicate m 0 := by
  unfold pkF
  simp only [List.take_zero, List.drop_nil, List.take_nil]
  apply List.ext_getElem
  · simp
  · intro i h1 h2
    simp [val]
theorem pkF_len (L : List Nat) (m i : Nat) : (pkF L m i).length = m := by simp [pkF]
theorem pkF_get (L : List Nat) (m i j : Nat) (h : j < (pkF L m i).length) : (pkF L m i)[j] = UInt8.ofNat (val (((L.take i).drop (8 * j)).take 8)) := by simp [pkF]
theorem chunk_lt (L : List Nat) (i j : Nat) (hb : ∀ x ∈ L, x < 2) : val (((L.take i).drop (8 * j)).take 8) < 256 := by
  have h1 := val_lt (((L.take i).drop (8 * j)).take 8) (fun x hx => hb x (List.mem_of_mem_take (List.mem_of_mem_drop (List.mem_of_mem_take hx))))
  have h2 : two (((L.take i).drop (8 * j)).take 8).length ≤ two 8 := by
    rw [two_pow, two_pow]
    exact Nat.pow_le_pow_right (by omega) (by rw [List.length_take]; omega)
  have h3 : two 8 = 256 := by decide
  omega
/-- the byte that a bit goes into -/
theorem chunk_step (L : List Nat) (i : Nat) (h : i < L.length) : val (((L.take (i + 1)).drop (8 * (i / 8))).take 8) = val (((L.take i).drop (8 * (i / 8))).take 8) + two (i % 8) * L[i] := by
  have hl : (L.take i).length = i := by rw [List.length_take]; omega
  have e1 : ((L.take (i + 1)).drop (8 * (i / 8))).take 8 = (L.take i).drop (8 * (i / 8)) ++ [L[i]] := by
    rw [List.take_succ_eq_append_getElem h, List.drop_append_of_le_length (by rw [hl]; omega), List.take_of_length_le (by rw [List.length_append, List.length_drop, hl, List.length_singleton]; omega)]
  have e2 : ((L.take i).drop (8 * (i / 8))).take 8 = (L.take i).drop (8 * (i / 8)) := List.take_of_length_le (by rw [List.length_drop, hl]; omega)
  rw [e1, e2, val_app, List.length_drop, hl, show i - 8 * (i / 8) = i % 8 by omega]
  show _ + two (i % 8) * (L[i] + 2 * 0) = _
  rw [Nat.mul_zero, Nat.add_zero]
theorem chunk_same (L : List Nat) (i j : Nat) (h : i < L.length) (hj : j ≠ i / 8) : ((L.take (i + 1)).drop (8 * j)).take 8 = ((L.take i).drop (8 * j)).take 8 := by
  have hl : (L.take i).length = i := by rw [List.length_take]; omega
  by_cases hlt : j < i / 8
  · rw [List.take_succ_eq_append_getElem h, List.drop_append_of_le_length (by rw [hl]; omega), List.take_append_of_le_length (by rw [List.length_drop, hl]; omega)]
  · rw [List.drop_eq_nil_of_le (by rw [List.length_take]; omega), List.drop_eq_nil_of_le (by rw [hl]; omega)]
theorem pkF_set (L : List Nat) (m i : Nat) (h : i < L.length) (hm : i / 8 < m) (hb : ∀ x ∈ L, x < 2) : (pkF L m i).set (i / 8) (UInt8.ofNat (val (((L.take i).drop (8 * (i / 8))).take 8) + two (i % 8) * L[i])) = pkF L m (i + 1) := by
  apply List.ext_getElem
  · rw [List.length_set, pkF_len, pkF_len]
  · intro j h1 h2
    rw [List.getElem_set, pkF_get]
    by_cases e : i / 8 = j
    · rw [if_pos e, pkF_get, ← e, chunk_step L i h]
    · rw [if_neg e, pkF_get, chunk_same L i j h (Ne.symm e)]
theorem val_zeros : ∀ n, val (nb 0 n) = 0
  | 0 => rfl
  | n + 1 => by
    rw [nb, val, Nat.zero_div, val_zeros n]
theorem nb_drop : ∀ (k n : Nat), (nb 0 n).take k = nb 0 (min k n)
  | 0, n => by rw [List.take_zero, Nat.zero_min]; rfl
  | k + 1, 0 => rfl
  | k + 1, n + 1 => by
    rw [show min (k + 1) (n + 1) = min k n + 1 by omega, nb, nb, List.take_succ_cons, Nat.zero_div, nb_drop k n]
theorem pkF_all (L : List Nat) : pkF L ((L.length + 7) / 8) L.length = bytesOf (L ++ fl L) := by
  have hfl : (fl L).length < 8 ∧ (L ++ fl L).length = 8 * ((L.length + 7) / 8) ∧ ∀ k, val ((fl L).take k) = 0 := by
    unfold fl
    split
    · refine ⟨by show 0 < 8; omega, by rw [List.append_nil]; omega, fun k => by rw [List.take_nil]; rfl⟩
    · refine ⟨by rw [nb_len]; omega, by rw [List.length_append, nb_len]; omega, fun k => by rw [nb_drop, val_zeros]⟩
  apply List.ext_getElem?
  intro j
  by_cases hj : j < (L.length + 7) / 8
  · rw [bytesOf_get j (L ++ fl L) (by rw [hfl.2.1]; omega), List.getElem?_eq_getElem (by rw [pkF_len]; exact hj), pkF_get, List.take_of_length_le (Nat.le_refl L.length)]
    congr 2
    by_cases hle : 8 * j ≤ L.length
    · rw [List.drop_append_of_le_length hle, List.take_append, val_app, hfl.2.2, Nat.mul_zero, Nat.add_zero]
    · omega
  · rw [List.getElem?_eq_none (by rw [pkF_len]; omega), List.getElem?_eq_none (by rw [bytesOf_len _ _ (Nat.le_refl _), hfl.2.1]; omega)]
end Go.Proofs.Ytddiccdfeckgaaa.D
