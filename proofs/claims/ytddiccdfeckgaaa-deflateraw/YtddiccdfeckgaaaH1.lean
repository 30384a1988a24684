import Derived.Test.YtddiccdfeckgaaaH0
/- Plain facts on reading a code, bit by bit. -/
namespace Go.Proofs.Ytddiccdfeckgaaa.Hf
set_option linter.unusedVariables false
open Go.Proofs.Ytddiccdfeckgaaa.B (P2 P2_zero P2_succ P2_pos P2_add P2_le P2_lt P2_sub)

/-- the symbol of n bits that stands j-th among those -/
def sym (zs : List Int) (n j : Nat) : Nat := ((List.range zs.length).find? (fun k => decide (zs.getD k 0 = (n : Int)) && (cn (zs.take k) n == j))).getD 0
theorem sym_at (zs : List Int) (i n : Nat) (h : i < zs.length) (h0 : 0 < n) (hn : zs[i] = (n : Int)) : sym zs n (cn (zs.take i) n) = i := by
  have e : (List.range zs.length).find? (fun k => decide (zs.getD k 0 = (n : Int)) && (cn (zs.take k) n == cn (zs.take i) n)) = some i := by
    rw [List.find?_range_eq_some]
    refine ⟨?_, by simpa using h, ?_⟩
    · rw [getD_eq zs i h]; simp [hn]
    · intro j hj
      have hj2 : j < zs.length := by omega
      rw [getD_eq zs j hj2]
      by_cases hz : zs[j] = (n : Int)
      · have := cn_lt2 zs j i hj h (by omega)
        rw [hz, Int.toNat_natCast] at this
        simp
        right
        omega
      · simp [hz]
  unfold sym
  rw [e]
  rfl
theorem sym_of (zs : List Int) (n j : Nat) (h : j < cn zs n) : ∃ hk : sym zs n j < zs.length, zs[sym zs n j] = (n : Int) ∧ 0 < n ∧ cn (zs.take (sym zs n j)) n = j := by
  obtain ⟨k, hk, h1, h2, h3⟩ := rank_sur zs n j h
  have := sym_at zs k n hk h2 h1
  rw [h3] at this
  rw [this]
  exact ⟨hk, h1, h2, h3⟩

def dec (zs : List Int) (b : Nat → Option Nat) : Nat → Nat → Nat → Nat × Nat × Nat
  | 0, _, _ => (0, 0, 4)
  | k + 1, n, c => if st zs 16 ≤ st zs (n + 1) then (0, 0, 4) else match b n with
    | none => (0, 0, 2)
    | some x => if 2 * c + x < fs zs (n + 1) + cn zs (n + 1) then (sym zs (n + 1) (2 * c + x - fs zs (n + 1)), n + 1, 0) else dec zs b k (n + 1) (2 * c + x)
def decF (zs : List Int) (b : Nat → Option Nat) (n c : Nat) : Nat × Nat × Nat := if c < fs zs n + cn zs n then (sym zs n (c - fs zs n), n, 0) else dec zs b (15 - n) n c
def nx (zs : List Int) (b : Nat → Option Nat) : Nat × Nat × Nat := dec zs b 15 0 0
theorem nx_eq (zs : List Int) (b : Nat → Option Nat) : nx zs b = decF zs b 0 0 := by
  unfold decF; rw [if_neg (by rw [cn_zero]; exact Nat.not_lt_zero _)]; rfl
theorem dec_end (zs : List Int) (b : Nat → Option Nat) (n c : Nat) : dec zs b 0 n c = (0, 0, 4) := rfl
theorem dec_none (zs : List Int) (b : Nat → Option Nat) (k n c : Nat) (h : st zs 16 ≤ st zs (n + 1)) : dec zs b k n c = (0, 0, 4) := by
  cases k with
  | zero => rfl
  | succ k => rw [dec, if_pos h]
theorem dec_short (zs : List Int) (b : Nat → Option Nat) (n c : Nat) (hn : n < 15) (h : ¬ st zs 16 ≤ st zs (n + 1)) (hb : b n = none) : dec zs b (15 - n) n c = (0, 0, 2) := by
  rw [show 15 - n = (15 - (n + 1)) + 1 by omega, dec, if_neg h, hb]
theorem dec_step (zs : List Int) (b : Nat → Option Nat) (n c x : Nat) (hn : n < 15) (h : ¬ st zs 16 ≤ st zs (n + 1)) (hb : b n = some x) : dec zs b (15 - n) n c = decF zs b (n + 1) (2 * c + x) := by
  rw [show 15 - n = (15 - (n + 1)) + 1 by omega, dec, if_neg h, hb]
  rfl
theorem decF_hit (zs : List Int) (b : Nat → Option Nat) (n c : Nat) (h : c < fs zs n + cn zs n) : decF zs b n c = (sym zs n (c - fs zs n), n, 0) := by unfold decF; rw [if_pos h]
theorem decF_miss (zs : List Int) (b : Nat → Option Nat) (n c : Nat) (h : ¬ c < fs zs n + cn zs n) : decF zs b n c = dec zs b (15 - n) n c := by unfold decF; rw [if_neg h]

theorem hit_sym (zs : List Int) (n c k : Nat) (h : k < zs.length) (h0 : 0 < n) (hz : zs[k] = (n : Int)) (hc : cd zs k = c) : c < fs zs n + cn zs n ∧ sym zs n (c - fs zs n) = k := by
  have e := cd_pos zs k h (by omega)
  rw [hz, Int.toNat_natCast] at e
  have l := cn_lt zs k h (by omega)
  rw [hz, Int.toNat_natCast] at l
  refine ⟨by omega, ?_⟩
  rw [show c - fs zs n = cn (zs.take k) n by omega]
  exact sym_at zs k n h h0 hz
theorem hit_of (zs : List Int) (n c : Nat) (h0 : fs zs n ≤ c) (h : c < fs zs n + cn zs n) : ∃ k, ∃ hk : k < zs.length, zs[k] = (n : Int) ∧ 0 < n ∧ cd zs k = c := by
  obtain ⟨k, hk, h1, h2, h3⟩ := rank_sur zs n (c - fs zs n) (by omega)
  refine ⟨k, hk, h1, h2, ?_⟩
  rw [cd_pos zs k hk (by omega), h1, Int.toNat_natCast, h3]
  omega
theorem P2_mul (a b : Nat) (h : a ≤ b) (hb : b ≤ 15) : P2 (15 - a) = P2 (b - a) * P2 (15 - b) := by rw [← P2_add]; congr 1; omega
theorem lvl (zs : List Int) (x N : Nat) (a : Nat) (ha : a ≤ N) (h0 : sk zs a ≤ x) (h1 : x < sk zs N) : ∃ m, a ≤ m ∧ m < N ∧ sk zs m ≤ x ∧ x < sk zs (m + 1) := by
  induction N with
  | zero => have : a = 0 := by omega
            subst this; omega
  | succ N ih =>
    by_cases h : x < sk zs N
    · by_cases e : a ≤ N
      · obtain ⟨m, m1, m2, m3⟩ := ih e h
        exact ⟨m, m1, by omega, m3⟩
      · have : a = N + 1 := by omega
        subst this; omega
    · by_cases e : a ≤ N
      · exact ⟨N, e, by omega, by omega, h1⟩
      · have : a = N + 1 := by omega
        subst this; omega
theorem more_full (zs : List Int) (hf : sk zs 16 = 32768) (n c : Nat) (hn : n ≤ 15) (hc : c < P2 n) (hl : fs zs n + cn zs n ≤ c) :
    ∃ k, ∃ hk : k < zs.length, (n : Int) < zs[k] ∧ zs[k] ≤ 15 ∧ cd zs k / P2 (zs[k].toNat - n) = c := by
  have h1 : sk zs (n + 1) ≤ c * P2 (15 - n) := by rw [← fs_cn_sk zs n hn]; exact Nat.mul_le_mul_right _ hl
  have h2 : c * P2 (15 - n) < sk zs 16 := by
    rw [hf, show 32768 = P2 (n + (15 - n)) by rw [show n + (15 - n) = 15 by omega]; rfl, P2_add]
    exact Nat.mul_lt_mul_of_pos_right hc (P2_pos _)
  obtain ⟨m, m1, m2, m3, m4⟩ := lvl zs _ 16 (n + 1) (by omega) h1 h2
  have e : c * P2 (15 - n) = c * P2 (m - n) * P2 (15 - m) := by rw [P2_mul n m (by omega) (by omega), Nat.mul_assoc]
  rw [e, ← fs_sk zs m (by omega)] at m3
  rw [e, ← fs_cn_sk zs m (by omega)] at m4
  have k1 := Nat.le_of_mul_le_mul_right m3 (P2_pos _)
  have k2 := Nat.lt_of_mul_lt_mul_right m4
  obtain ⟨k, hk, z1, z2, z3⟩ := hit_of zs m _ k1 k2
  refine ⟨k, hk, by omega, by omega, ?_⟩
  rw [z1, Int.toNat_natCast, z3, Nat.mul_div_cancel _ (P2_pos _)]
theorem longer_st (zs : List Int) (n k : Nat) (hk : k < zs.length) (h : (n : Int) < zs[k]) (h15 : zs[k] ≤ 15) : st zs (n + 1) < st zs 16 := by
  have a1 := st_mono zs (a := n + 1) (b := zs[k].toNat) (by omega)
  have a2 := st_cn_le zs zs[k].toNat 16 (by omega)
  have a3 := cn_lt zs k hk (by omega)
  omega
theorem tab_cases {zs : List Int} (h : tabB zs = true) : sk zs 16 = 32768 ∨ st zs 16 = 0 ∨ (st zs 16 = 1 ∧ cn zs 1 = 1) := by
  unfold tabB at h
  simp only [Bool.or_eq_true, beq_iff_eq, Bool.and_eq_true] at h
  rcases h with (h | h) | h
  · exact Or.inl h
  · exact Or.inr (Or.inl h)
  · exact Or.inr (Or.inr h)
theorem more_iff (zs : List Int) (hR : inR zs) (hT : tabB zs = true) (n c : Nat) (hn : n ≤ 15) (hc : c < P2 n) (hl : fs zs n + cn zs n ≤ c) :
    (∃ k, ∃ hk : k < zs.length, (n : Int) < zs[k] ∧ cd zs k / P2 (zs[k].toNat - n) = c) ↔ st zs (n + 1) < st zs 16 := by
  constructor
  · rintro ⟨k, hk, h1, _⟩
    exact longer_st zs n k hk h1 (hR k hk).2
  · intro h
    rcases tab_cases hT with h1 | h1 | ⟨h1, h2⟩
    · obtain ⟨k, hk, a, _, b⟩ := more_full zs h1 n c hn hc hl
      exact ⟨k, hk, a, b⟩
    · omega
    · by_cases e : n = 0
      · subst e
        obtain ⟨k, hk, z1, z2, z3⟩ := rank_sur zs 1 0 (by omega)
        have f1 : fs zs 1 = 0 := rfl
        refine ⟨k, hk, by omega, ?_⟩
        rw [cd_pos zs k hk (by omega), z1]
        rw [P2_zero] at hc
        show (fs zs 1 + cn (zs.take k) 1) / _ = c
        rw [f1, z3]
        simp
        omega
      · have := st_cn_le zs 1 (n + 1) (by omega)
        omega
theorem cd_lt (zs : List Int) (hT : tabB zs = true) (i : Nat) (h : i < zs.length) (h0 : 0 < zs[i]) (h1 : zs[i] ≤ 15) : cd zs i < P2 zs[i].toNat := by
  have e := cd_pos zs i h h0
  have l := cn_lt zs i h h0
  rcases tab_cases hT with a | a | ⟨a, b⟩
  · have f := fs_cn_sk zs zs[i].toNat (by omega)
    have m := sk_mono zs (a := zs[i].toNat + 1) (b := 16) (by omega)
    rw [← f, a, show 32768 = P2 (zs[i].toNat + (15 - zs[i].toNat)) by rw [show zs[i].toNat + (15 - zs[i].toNat) = 15 by omega]; rfl, P2_add] at m
    have := Nat.le_of_mul_le_mul_right m (P2_pos _)
    omega
  · have := st_cn_le zs zs[i].toNat 16 (by omega)
    omega
  · have hz := (st_one zs).1 ⟨a, b⟩
    by_cases e1 : zs[i].toNat = 1
    · rw [e1] at e l
      rw [e1, e, show fs zs 1 = 0 from rfl]
      show _ < 2
      omega
    · have := hz.2 zs[i].toNat (by omega) e1
      omega
theorem cd_up (zs : List Int) (i : Nat) (h : i < zs.length) (h0 : 0 < zs[i]) (m : Nat) (hm : m < zs[i].toNat) : fs zs m + cn zs m ≤ cd zs i / P2 (zs[i].toNat - m) := by
  have e := cd_pos zs i h h0
  have u := fs_up zs m (zs[i].toNat - m - 1)
  rw [show zs[i].toNat - m - 1 + 1 = zs[i].toNat - m by omega, show m + (zs[i].toNat - m) = zs[i].toNat by omega] at u
  rw [Nat.le_div_iff_mul_le (P2_pos _)]
  omega
/-- a symbol's code is read back as it -/
theorem nx_back (zs : List Int) (hT : tabB zs = true) (b : Nat → Option Nat) (i : Nat) (h : i < zs.length) (h0 : 0 < zs[i]) (h1 : zs[i] ≤ 15)
    (hb : ∀ m, m < zs[i].toNat → b m = some (cd zs i / P2 (zs[i].toNat - 1 - m) % 2)) : nx zs b = (i, zs[i].toNat, 0) := by
  have H : ∀ m, m ≤ zs[i].toNat → nx zs b = decF zs b m (cd zs i / P2 (zs[i].toNat - m)) := by
    intro m
    induction m with
    | zero =>
      intro _
      have := cd_lt zs hT i h h0 h1
      rw [Nat.div_eq_of_lt (by simpa using this)]
      exact nx_eq zs b
    | succ m ih =>
      intro hm
      have u := cd_up zs i h h0 m (by omega)
      rw [ih (by omega), decF_miss zs b m _ (by omega), dec_step zs b m _ _ (by omega) (by have := longer_st zs m i h (by omega) h1; omega) (hb m (by omega))]
      congr 1
      rw [show zs[i].toNat - m = (zs[i].toNat - (m + 1)) + 1 by omega, show zs[i].toNat - 1 - m = zs[i].toNat - (m + 1) by omega, P2_succ, Nat.mul_comm 2 (P2 (zs[i].toNat - (m + 1))), ← Nat.div_div_eq_div_mul]
      generalize cd zs i / P2 (zs[i].toNat - (m + 1)) = y
      clear u ih
      omega
  rw [H zs[i].toNat (Nat.le_refl _), Nat.sub_self, P2_zero, Nat.div_one]
  obtain ⟨a1, a2⟩ := hit_sym zs zs[i].toNat (cd zs i) i h (by omega) (by omega) rfl
  rw [decF_hit zs b _ _ a1, a2]
/-- no code begins with another one -/
theorem no_prefix (zs : List Int) (i n : Nat) (hi : i < zs.length) (hn : n < zs.length) (h : i ≠ n) (hn0 : 0 < zs[n]) (hle : zs[n] ≤ zs[i]) : cd zs i / P2 (zs[i] - zs[n]).toNat ≠ cd zs n := by
  have e := cd_pos zs n hn hn0
  have l := cn_lt zs n hn hn0
  by_cases hz : zs[i] = zs[n]
  · have e2 := cd_pos zs i hi (by omega)
    rw [hz] at e2
    rw [hz, Int.sub_self, Int.toNat_zero, P2_zero, Nat.div_one]
    rcases Nat.lt_or_gt_of_ne h with h' | h'
    · have := cn_lt2 zs i n h' hn (by omega)
      rw [hz] at this
      omega
    · have := cn_lt2 zs n i h' hi (by omega)
      omega
  · have u := cd_up zs i hi (by omega) zs[n].toNat (by omega)
    rw [show zs[i].toNat - zs[n].toNat = (zs[i] - zs[n]).toNat by omega] at u
    omega
theorem full_at (zs : List Int) (b : Nat → Option Nat) (hf : sk zs 16 = 32768) (hb : ∀ m, m < 15 → ∃ x, b m = some x ∧ x < 2) :
    ∀ d n c, d = 15 - n → n ≤ 15 → c < P2 n → fs zs n ≤ c → ∃ s L, ∃ hs : s < zs.length, decF zs b n c = (s, L, 0) ∧ zs[s] = (L : Int) ∧ 0 < L := by
  intro d
  induction d with
  | zero =>
    intro n c hd hn hc hl
    by_cases hh : c < fs zs n + cn zs n
    · obtain ⟨hk, z1, z2, _⟩ := sym_of zs n (c - fs zs n) (by omega)
      exact ⟨_, n, hk, decF_hit zs b n c hh, z1, z2⟩
    · obtain ⟨k, hk, a1, a2, _⟩ := more_full zs hf n c hn hc (by omega)
      omega
  | succ d ih =>
    intro n c hd hn hc hl
    by_cases hh : c < fs zs n + cn zs n
    · obtain ⟨hk, z1, z2, _⟩ := sym_of zs n (c - fs zs n) (by omega)
      exact ⟨_, n, hk, decF_hit zs b n c hh, z1, z2⟩
    · obtain ⟨k, hk, a1, a2, _⟩ := more_full zs hf n c hn hc (by omega)
      obtain ⟨x, hx, hx2⟩ := hb n (by omega)
      rw [decF_miss zs b n c hh, dec_step zs b n c x (by omega) (by have := longer_st zs n k hk a1 a2; omega) hx]
      exact ih (n + 1) (2 * c + x) (by omega) (by omega) (by rw [P2_succ]; omega) (by rw [fs_succ]; omega)
theorem nx_full (zs : List Int) (b : Nat → Option Nat) (hf : sk zs 16 = 32768) (hb : ∀ m, m < 15 → ∃ x, b m = some x ∧ x < 2) :
    ∃ s L, ∃ hs : s < zs.length, nx zs b = (s, L, 0) ∧ zs[s] = (L : Int) ∧ 0 < L := by
  rw [nx_eq]
  exact full_at zs b hf hb 15 0 0 rfl (by omega) (by rw [P2_zero]; omega) (Nat.le_refl _)
theorem nx_few (zs : List Int) (hT : tabB zs = true) (b : Nat → Option Nat) (h : st zs 16 < 2) (hb : ∃ x, b 0 = some x) : (nx zs b).2.2 = 0 ∨ (nx zs b).2.2 = 4 := by
  obtain ⟨x, hx⟩ := hb
  by_cases h1 : st zs 16 ≤ st zs 1
  · right
    rw [nx_eq, decF_miss zs b 0 0 (by rw [cn_zero]; exact Nat.not_lt_zero _), dec_none zs b _ 0 0 h1]
  · rw [nx_eq, decF_miss zs b 0 0 (by rw [cn_zero]; exact Nat.not_lt_zero _), dec_step zs b 0 0 x (by omega) h1 hx]
    by_cases hh : 2 * 0 + x < fs zs 1 + cn zs 1
    · left; rw [decF_hit zs b _ _ hh]
    · right
      have s1 : st zs 1 = 0 := rfl
      have hc1 : cn zs 1 = 1 := by
        rcases tab_cases hT with a | a | ⟨a, b⟩
        · exfalso
          have f : sk zs 16 ≤ st zs 16 * P2 14 := by
            have H : ∀ N, N ≤ 16 → sk zs N ≤ st zs N * P2 14 := by
              intro N
              induction N with
              | zero => intro _; rw [show sk zs 0 = 0 from rfl]; exact Nat.zero_le _
              | succ N ih =>
                intro hN
                rw [sk_succ, st_succ, Nat.add_mul]
                by_cases e : N = 0
                · subst e; rw [cn_zero]; simp [sk, st]
                · have p : P2 (15 - N) ≤ P2 14 := P2_le (by omega)
                  have := Nat.mul_le_mul_left (cn zs N) p
                  have := ih (by omega)
                  omega
            exact H 16 (Nat.le_refl _)
          have e1 : st zs 16 = 1 := by omega
          rw [a, e1, Nat.one_mul] at f
          exact absurd f (by decide)
        · omega
        · exact b
      have : st zs 16 ≤ st zs 2 := by
        have := st_cn_le zs 1 2 (by omega)
        omega
      rw [decF_miss zs b _ _ hh, dec_none zs b _ 1 _ this]
theorem full_of_many {zs : List Int} (hT : tabB zs = true) (h : 2 ≤ st zs 16) : sk zs 16 = 32768 := by
  rcases tab_cases hT with a | a | ⟨a, b⟩
  · exact a
  · omega
  · omega
end Go.Proofs.Ytddiccdfeckgaaa.Hf
