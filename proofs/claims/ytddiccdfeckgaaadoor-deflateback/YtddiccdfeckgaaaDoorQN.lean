import Derived.Test.YtddiccdfeckgaaaDoorQK
import Derived.Test.YtddiccdfeckgaaaDoorZJ
import Derived.Test.YtddiccdfeckgaaaDoorZH
/- Layer 6, plain: what is packed is unpacked to what it was. -/
namespace Go.Proofs.YtddiccdfeckgaaaDoor.D
set_option linter.unusedVariables false
theorem two_P2 (n : Nat) : two n = B.P2 n := two_pow n
/-- bits that stand from p on -/
def At (X : ByteArray) (p : Nat) (l : List Nat) : Prop := p + l.length ≤ 8 * X.size ∧ ∀ m (h : m < l.length), btv X (p + m) = l[m]
theorem At.left {X : ByteArray} {p : Nat} {a b : List Nat} (h : At X p (a ++ b)) : At X p a := by
  refine ⟨by have := h.1; rw [List.length_append] at this; omega, fun m hm => ?_⟩
  rw [h.2 m (by rw [List.length_append]; omega), List.getElem_append_left hm]
theorem At.right {X : ByteArray} {p : Nat} {a b : List Nat} (h : At X p (a ++ b)) : At X (p + a.length) b := by
  refine ⟨by have := h.1; rw [List.length_append] at this; omega, fun m hm => ?_⟩
  rw [Nat.add_assoc, h.2 (a.length + m) (by rw [List.length_append]; omega), List.getElem_append_right (by omega)]
  congr 1
  omega
theorem bytesOf_get : ∀ (j : Nat) (L : List Nat), 8 * j + 8 ≤ L.length → (bytesOf L)[j]? = some (UInt8.ofNat (val ((L.drop (8 * j)).take 8)))
  | 0, L, h => by rw [bytesOf_step (by omega)]; rfl
  | j + 1, L, h => by
    rw [bytesOf_step (by omega), List.getElem?_cons_succ, bytesOf_get j (L.drop 8) (by rw [List.length_drop]; omega), List.drop_drop]
    congr 5
    omega
theorem val_bit : ∀ (l : List Nat) (r : Nat) (h : r < l.length), (∀ x ∈ l, x < 2) → val l / two r % 2 = l[r]
  | [], r, h, _ => by cases h
  | x :: t, 0, h, hb => by
    have := hb x List.mem_cons_self
    rw [val, two, Nat.div_one]
    show (x + 2 * val t) % 2 = x
    omega
  | x :: t, r + 1, h, hb => by
    have hx := hb x List.mem_cons_self
    have ih := val_bit t r (by simpa using h) (fun y hy => hb y (List.mem_cons_of_mem _ hy))
    rw [val, two, ← Nat.div_div_eq_div_mul, show (x + 2 * val t) / 2 = val t by omega, ih]
    rfl
theorem at_bytes {X : ByteArray} {L : List Nat} {rest : List UInt8} (hX : X.data.toList = bytesOf L ++ rest) (h8 : L.length % 8 = 0) (hb : ∀ x ∈ L, x < 2) : At X 0 L := by
  have hl := bytesOf_len _ L (Nat.le_refl _)
  have hsz : X.size = X.data.toList.length := by simp
  refine ⟨by rw [hsz, hX, List.length_append, hl]; omega, fun m hm => ?_⟩
  have hg := bytesOf_get (m / 8) L (by omega)
  have hlt : val ((L.drop (8 * (m / 8))).take 8) < 256 := by
    have h1 := val_lt ((L.drop (8 * (m / 8))).take 8) (fun x hx => hb x (List.mem_of_mem_drop (List.mem_of_mem_take hx)))
    rw [List.length_take, List.length_drop, Nat.min_eq_left (by omega)] at h1
    exact h1
  unfold btv
  rw [Nat.zero_add, hX, List.getD_eq_getElem?_getD, List.getElem?_append_left (by rw [hl]; omega), hg, ← two_P2]
  show (UInt8.ofNat _).toNat / _ % 2 = _
  rw [UInt8.toNat_ofNat', Nat.mod_eq_of_lt hlt, val_bit _ _ (by rw [List.length_take, List.length_drop]; omega) (fun x hx => hb x (List.mem_of_mem_drop (List.mem_of_mem_take hx))), List.getElem_take, List.getElem_drop]
  congr 1
  omega
theorem nb_get (v : Nat) : ∀ (n m : Nat) (h : m < (nb v n).length), (nb v n)[m] = v / two m % 2
  | n, m, h => by
    induction n generalizing v m with
    | zero => cases h
    | succ n ih =>
      cases m with
      | zero => simp [nb, two]
      | succ m =>
        have hm : m < (nb (v / 2) n).length := by rw [nb_len] at h ⊢; omega
        have := ih (v / 2) m hm
        simp only [nb, List.getElem_cons_succ]
        rw [this, two, Nat.div_div_eq_div_mul]
theorem hb_get (v n m : Nat) (h : m < (hb v n).length) : (hb v n)[m] = v / two (n - 1 - m) % 2 := by
  unfold hb at h ⊢
  rw [List.length_reverse] at h
  rw [List.getElem_reverse, nb_get]
  congr 3
  rw [nb_len]
theorem num_of {X : ByteArray} {p v n : Nat} (h : At X p (nb v n)) (hv : v < two n) : I.num X p n = .ok (v, p + n) := by
  have hl := h.1
  rw [nb_len] at hl
  have key : ∀ k, k ≤ n → Go.Proofs.YtddiccdfeckgaaaDoor.nb X p k = v % two k := by
    intro k
    induction k with
    | zero => intro _; show 0 = v % 1; omega
    | succ k ih =>
      intro hk
      have hb := h.2 k (by rw [nb_len]; omega)
      rw [nb_get] at hb
      rw [Go.Proofs.YtddiccdfeckgaaaDoor.nb, ih (by omega), hb, ← two_P2, two, Nat.mul_comm 2 (two k), Nat.mod_mul, Nat.mul_comm]
  unfold I.num
  rw [if_neg (by omega), key n (Nat.le_refl _), Nat.mod_eq_of_lt hv]
theorem sym_of {zs : List Int} {X : ByteArray} {p i v n : Nat} (hT : Hf.tabB zs = true) (hi : i < zs.length) (hz : zs[i] = (n : Int)) (hn : 0 < n) (hn9 : n ≤ 15) (hc : Hf.cd zs i = v) (h : At X p (hb v n)) : I.sym zs X p = .ok (i, p + n) := by
  have hl := h.1
  rw [hb_len] at hl
  have hzn : zs[i].toNat = n := by rw [hz]; rfl
  have hnx := Hf.nx_back zs hT (fun m => bt X (p + m)) i hi (by rw [hz]; omega) (by rw [hz]; omega) (fun m hm => by
    rw [hzn] at hm ⊢
    show bt X (p + m) = _
    rw [bt_some X (p + m) (by omega), h.2 m (by rw [hb_len]; exact hm), hb_get, hc, two_P2])
  rw [hzn] at hnx
  unfold I.sym
  rw [hnx]
  rfl
theorem fixA_tab : Hf.tabB I.fixA = true := by decide +kernel
theorem fixD_tab : Hf.tabB I.fixD = true := by decide +kernel
/-- a fixed code: how many bits, and which -/
def cA (n : Nat) : Nat × Nat := if n < 144 then (48 + n, 8) else if n < 256 then (256 + n, 9) else if n < 280 then (n - 256, 7) else (n - 88, 8)
theorem sc_cA (n : Nat) : sc n = hb (cA n).1 (cA n).2 := by
  unfold sc cA
  split
  · rfl
  · split
    · rfl
    · split <;> rfl
theorem fixA_all : ∀ n : Fin 288, (I.fixA[(n : Nat)]'(by rw [fixA_len]; exact n.2)) = ((cA n).2 : Int) ∧ Hf.cd I.fixA n = (cA n).1 ∧ 0 < (cA n).2 ∧ (cA n).2 ≤ 15 := by decide +kernel
theorem fixD_all : ∀ n : Fin 32, (I.fixD[(n : Nat)]'(by rw [fixD_len]; exact n.2)) = 5 ∧ Hf.cd I.fixD n = n := by decide +kernel
theorem symA {X : ByteArray} {p n : Nat} (hn : n < 288) (h : At X p (sc n)) : I.sym I.fixA X p = .ok (n, p + (sc n).length) := by
  obtain ⟨h1, h2, h3, h4⟩ := fixA_all ⟨n, hn⟩
  rw [sc_cA] at h ⊢
  rw [hb_len]
  exact sym_of fixA_tab (by rw [fixA_len]; exact hn) h1 h3 h4 h2 h
theorem symD {X : ByteArray} {p n : Nat} (hn : n < 32) (h : At X p (hb n 5)) : I.sym I.fixD X p = .ok (n, p + 5) := by
  obtain ⟨h1, h2⟩ := fixD_all ⟨n, hn⟩
  exact sym_of fixD_tab (by rw [fixD_len]; exact hn) h1 (by omega) (by omega) h2 h
theorem ln_ok : ∀ v : Fin 255, (I.ln (sS v 3)).2 = sN v 3 ∧ (I.ln (sS v 3)).1 + sR v 3 = v + 3 ∧ sS v 3 < 28 := by decide +kernel
theorem ds_tab : ∀ (k : Fin 14) (q : Fin 2), 0 < (k : Nat) → I.ds (2 * k + (2 + q)) = ((2 + q) * two k + 1, (k : Nat)) ∧ 2 * (k : Nat) + (2 + q) < 30 := by decide +kernel
theorem ds_low : ∀ v : Fin 4, I.ds v = ((v : Nat) + 1, 0) := by decide +kernel
theorem len_ge (v : Nat) (h : v < 65536) (h0 : 0 < Lib.bitLen v) : two (Lib.bitLen v - 1) ≤ v := by
  refine Nat.le_of_not_lt fun hlt => ?_
  rw [two_pow] at hlt
  have := Lib.bitLen_le v (Lib.bitLen v - 1) (by have := Lib.bitLen_le v 16 (by omega) h; omega) hlt
  omega
theorem ds_ok (v : Nat) (h : v < 32768) : (I.ds (sS v 2)).2 = sN v 2 ∧ (I.ds (sS v 2)).1 + sR v 2 = v + 1 ∧ sS v 2 < 30 := by
  have hlt := lt_len v (by omega)
  have h15 := Lib.bitLen_le v 15 (by omega) (by omega)
  by_cases hk : sN v 2 = 0
  · have hL : Lib.bitLen v ≤ 2 := by unfold sN at hk; omega
    have h4 : v < 4 := by
      have h2 : two (Lib.bitLen v) ≤ two 2 := by rw [two_pow, two_pow]; exact Nat.pow_le_pow_right (by omega) hL
      have h3 : two 2 = 4 := by decide
      omega
    have hS : sS v 2 = v := by unfold sS; rw [hk]; show 2 * 0 + v / 1 = v; omega
    have hR : sR v 2 = 0 := by unfold sR; rw [hk]; show v % 1 = 0; omega
    have ht := ds_low ⟨v, h4⟩
    have ht : I.ds v = (v + 1, 0) := ht
    rw [hS, hR, hk, ht]
    exact ⟨rfl, rfl, by omega⟩
  · obtain ⟨k, hkk⟩ : ∃ k, k = sN v 2 := ⟨_, rfl⟩
    have hL : Lib.bitLen v = k + 2 := by unfold sN at hkk hk; omega
    have h1 : two (k + 1) ≤ v := by have := len_ge v (by omega) (by omega); rw [hL] at this; exact this
    have h2 : v < two (k + 2) := by rw [← hL]; exact hlt
    rw [two] at h1
    rw [two, two] at h2
    have hp := two_pos k
    obtain ⟨q, hq⟩ : ∃ q, q = v / two k := ⟨_, rfl⟩
    have hq2 : 2 ≤ q := by rw [hq]; exact (Nat.le_div_iff_mul_le hp).2 (by omega)
    have hq4 : q < 4 := by rw [hq]; exact (Nat.div_lt_iff_lt_mul hp).2 (by omega)
    have hdm := Nat.div_add_mod v (two k)
    have hS : sS v 2 = 2 * k + q := by unfold sS; rw [← hkk, ← hq]; rfl
    have hR : sR v 2 = v % two k := by unfold sR; rw [← hkk]
    have ht := ds_tab ⟨k, by omega⟩ ⟨q - 2, by omega⟩ (by show 0 < k; omega)
    have e2 : 2 + (q - 2) = q := by omega
    have ht1 : I.ds (2 * k + (2 + (q - 2))) = ((2 + (q - 2)) * two k + 1, k) := ht.1
    have ht2 : 2 * k + (2 + (q - 2)) < 30 := ht.2
    rw [e2] at ht1 ht2
    rw [hS, hR, ← hkk, ht1]
    refine ⟨rfl, ?_, ht2⟩
    rw [← hq] at hdm
    have : q * two k = two k * q := Nat.mul_comm _ _
    show q * two k + 1 + v % two k = v + 1
    omega
theorem at8_get (s : ByteArray) (i : Nat) : at8 s i = (s.data.toList.getD i 0).toNat := by
  unfold at8
  split
  · rename_i h
    have h' : i < s.data.toList.length := by simpa using h
    rw [List.getD_eq_getElem?_getD, List.getElem?_eq_getElem h']
    rfl
  · rename_i h
    rw [List.getD_eq_getElem?_getD, List.getElem?_eq_none (by simp; omega)]
    rfl
theorem cp_take (s : ByteArray) (far : Nat) : ∀ (n a : Nat), 1 ≤ far → far ≤ a → a + n ≤ s.size → (∀ i, i < n → eqn s a far i) → I.cp far n (s.data.toList.take a) = s.data.toList.take (a + n)
  | 0, a, _, _, _, _ => rfl
  | n + 1, a, h1, h2, h3, h => by
    have hlen : (s.data.toList.take a).length = a := by rw [List.length_take]; simp; omega
    have ha : a < s.data.toList.length := by simp; omega
    have e0 := (h 0 (by omega)).2
    rw [Nat.add_zero, at8_get, at8_get] at e0
    have e1 : (s.data.toList.take a).getD (a - far) 0 = s.data.toList[a] := by
      rw [List.getD_eq_getElem?_getD, List.getElem?_take, if_pos (by omega), ← List.getD_eq_getElem?_getD]
      apply UInt8.toNat_inj.1
      rw [← e0, List.getD_eq_getElem?_getD, List.getElem?_eq_getElem ha]
      rfl
    rw [I.cp, hlen, e1, ← List.take_succ_eq_append_getElem ha, cp_take s far n (a + 1) h1 (by omega) (by omega) (fun i hi => by
      have := h (i + 1) (by omega)
      unfold eqn at this ⊢
      rw [show a + 1 + i = a + (i + 1) by omega]
      exact this), show a + 1 + n = a + (n + 1) by omega]
/-- a run's bits are read as its copy -/
theorem copy_of {X : ByteArray} {most p n d k : Nat} {out : List UInt8} {r : Nat} (hk : k < 29) (hb : (I.ln k).2 = r) (x : Nat) (hx : x < two r) (hn : (I.ln k).1 + x = n) (h1 : 1 ≤ d) (h9 : d ≤ 32768) (hd : d ≤ out.length) (hm : out.length + n ≤ most) (h : At X p (nb x r ++ db d)) :
    I.copy I.fixD X most p out k = .ok (p + (nb x r ++ db d).length, I.cp d n out) := by
  obtain ⟨d1, d2, d3⟩ := ds_ok (d - 1) (by omega)
  have n1 := num_of h.left hx
  have hR := h.right
  rw [nb_len] at hR
  unfold db at hR
  have s1 := symD (sS2 (d - 1) (by omega)) hR.left
  have hR2 := hR.right
  rw [hb_len] at hR2
  have n2 := num_of hR2 (sR_lt (d - 1) 2)
  unfold I.copy
  rw [if_neg (by omega), hb, n1]
  simp only []
  rw [s1]
  simp only []
  rw [if_neg (by omega), d1, n2]
  simp only []
  rw [if_neg (by omega), if_neg (by omega), hn, show (I.ds (sS (d - 1) 2)).1 + sR (d - 1) 2 = d by omega]
  congr 2
  unfold db
  rw [List.length_append, List.length_append, nb_len, nb_len, hb_len]
  omega
theorem unpack (s X : ByteArray) (most : Nat) (hm : s.size ≤ most) : ∀ (f a p : Nat), a ≤ s.size → s.size - a ≤ f → At X p (toks s f a ++ sc 256) → I.syms I.fixA I.fixD X most p (s.data.toList.take a) = .ok (p + (toks s f a ++ sc 256).length, s.data.toList) := by
  intro f
  induction f with
  | zero =>
    intro a p ha hf h
    rw [show toks s 0 a = [] from rfl] at h ⊢
    have hend := symA (n := 256) (by omega) h.right
    rw [List.length_nil, Nat.add_zero] at hend
    have h1 : I.one I.fixA I.fixD X most p (s.data.toList.take a) = .ok (true, p + (sc 256).length, s.data.toList.take a) := by unfold I.one; rw [hend]; rfl
    rw [I.syms_end h1, List.take_of_length_le (by simp; omega)]
    rfl
  | succ f ih =>
    intro a p ha hf h
    have hlen : (s.data.toList.take a).length = a := by rw [List.length_take]; simp; omega
    by_cases hlt : a < s.size
    · rw [toks, if_pos hlt, List.append_assoc] at h ⊢
      have hL := h.left
      have hR := h.right
      have hsl := stp_le s a hlt
      have hsp := stp_pos s a
      have hnext := ih (a + stp s a) (p + (tok s a).length) hsl (by omega) hR
      have key : I.one I.fixA I.fixD X most p (s.data.toList.take a) = .ok (false, p + (tok s a).length, s.data.toList.take (a + stp s a)) := by
        by_cases h0 : (run s a).1 = 0
        · have ht : tok s a = sc (at8 s a) := by unfold tok; rw [if_pos h0]
          have hst : stp s a = 1 := by unfold stp; rw [if_pos h0]
          rw [ht] at hL
          have hs8 := at8_lt s a
          have hsy := symA (by omega) hL
          unfold I.one
          rw [hsy]
          simp only []
          have hal : a < s.data.toList.length := by simp; omega
          have hbyte : UInt8.ofNat (at8 s a) = s.data.toList[a] := by
            apply UInt8.toNat_inj.1
            rw [UInt8.toNat_ofNat', Nat.mod_eq_of_lt hs8, at8_get, List.getD_eq_getElem?_getD, List.getElem?_eq_getElem hal]
            rfl
          rw [if_pos hs8, if_pos (by rw [hlen]; omega), ht, hst, List.take_succ_eq_append_getElem hal, hbyte]
        · have ht : tok s a = lb (run s a).1 ++ db (run s a).2 := by unfold tok; rw [if_neg h0]
          have hst : stp s a = (run s a).1 := by unfold stp; rw [if_neg h0]
          rcases run_ok s a hlt with ⟨hz, _⟩ | ⟨h3, h258, hd1, hda, hd9, hsz, heq⟩
          · exact absurd hz h0
          rw [ht] at hL
          rw [hst]
          generalize (run s a).1 = n at *
          generalize (run s a).2 = d at *
          have hcp := cp_take s d n a hd1 hda hsz heq
          by_cases e : n = 258
          · have hlb : lb n = sc 285 := by unfold lb; rw [if_pos e]
            rw [hlb] at hL ht
            have hsy := symA (by omega) hL.left
            have hc := copy_of (most := most) (k := 28) (n := n) (d := d) (out := s.data.toList.take a) (r := 0) (by omega) rfl 0 (two_pos 0) (by rw [e]; rfl) hd1 hd9 (by rw [hlen]; exact hda) (by rw [hlen]; omega) hL.right
            unfold I.one
            rw [hsy]
            simp only []
            rw [if_neg (by omega), if_neg (by omega), show 285 - 257 = 28 from rfl, hc]
            simp only []
            have e2 : p + (sc 285).length + (nb 0 0 ++ db d).length = p + (sc 285 ++ db d).length := by simp only [List.length_append, nb_len]; omega
            rw [hcp, ht, e2]
          · have hlb : lb n = sc (257 + sS (n - 3) 3) ++ nb (sR (n - 3) 3) (sN (n - 3) 3) := by unfold lb; rw [if_neg e]
            rw [hlb] at hL ht
            rw [List.append_assoc] at hL ht
            obtain ⟨l1, l2, l3⟩ := ln_ok ⟨n - 3, by omega⟩
            have l1 : (I.ln (sS (n - 3) 3)).2 = sN (n - 3) 3 := l1
            have l2 : (I.ln (sS (n - 3) 3)).1 + sR (n - 3) 3 = n - 3 + 3 := l2
            have l3 : sS (n - 3) 3 < 28 := l3
            have hsy := symA (by omega) hL.left
            have hc := copy_of (most := most) (k := sS (n - 3) 3) (n := n) (d := d) (out := s.data.toList.take a) (by omega) l1 (sR (n - 3) 3) (sR_lt (n - 3) 3) (by omega) hd1 hd9 (by rw [hlen]; exact hda) (by rw [hlen]; omega) hL.right
            unfold I.one
            rw [hsy]
            simp only []
            rw [if_neg (by omega), if_neg (by omega), show 257 + sS (n - 3) 3 - 257 = sS (n - 3) 3 by omega, hc]
            simp only []
            have e2 : p + (sc (257 + sS (n - 3) 3)).length + (nb (sR (n - 3) 3) (sN (n - 3) 3) ++ db d).length = p + (sc (257 + sS (n - 3) 3) ++ (nb (sR (n - 3) 3) (sN (n - 3) 3) ++ db d)).length := by simp only [List.length_append]; omega
            rw [hcp, ht, e2]
      have e3 : p + (tok s a).length + (toks s f (a + stp s a) ++ sc 256).length = p + (tok s a ++ (toks s f (a + stp s a) ++ sc 256)).length := by simp only [List.length_append]; omega
      rw [I.syms_more key (by rw [hlen]; omega), hnext, e3]
    · have htk : toks s (f + 1) a = [] := toks_end s (f + 1) a (by omega)
      rw [htk] at h ⊢
      have hend := symA (n := 256) (by omega) h.right
      rw [List.length_nil, Nat.add_zero] at hend
      have h1 : I.one I.fixA I.fixD X most p (s.data.toList.take a) = .ok (true, p + (sc 256).length, s.data.toList.take a) := by unfold I.one; rw [hend]; rfl
      rw [I.syms_end h1, List.take_of_length_le (by simp; omega)]
      rfl
theorem bits_all (s : ByteArray) : ∀ x ∈ allB s ++ fl (allB s), x < 2 := by
  have hsc : ∀ n, ∀ x ∈ sc n, x < 2 := fun n x hx => by rw [sc_cA] at hx; exact hb_bit _ _ x hx
  have hlb : ∀ n, ∀ x ∈ lb n, x < 2 := fun n x hx => by
    unfold lb at hx
    split at hx
    · exact hsc _ x hx
    · rw [List.mem_append] at hx
      rcases hx with hx | hx
      · exact hsc _ x hx
      · exact nb_bit _ _ x hx
  have hdb : ∀ n, ∀ x ∈ db n, x < 2 := fun n x hx => by
    unfold db at hx
    rw [List.mem_append] at hx
    rcases hx with hx | hx
    · exact hb_bit _ _ x hx
    · exact nb_bit _ _ x hx
  have htk : ∀ f a, ∀ x ∈ toks s f a, x < 2 := fun f => by
    induction f with
    | zero => intro a x hx; cases hx
    | succ f ih =>
      intro a x hx
      rw [toks] at hx
      split at hx
      · rw [List.mem_append] at hx
        rcases hx with hx | hx
        · unfold tok at hx
          split at hx
          · exact hsc _ x hx
          · rw [List.mem_append] at hx
            rcases hx with hx | hx
            · exact hlb _ x hx
            · exact hdb _ x hx
        · exact ih _ x hx
      · cases hx
  intro x hx
  rw [List.mem_append] at hx
  rcases hx with hx | hx
  · unfold allB at hx
    rw [List.mem_append, List.mem_append] at hx
    rcases hx with (hx | hx) | hx
    · simp only [List.mem_cons, List.not_mem_nil, or_false] at hx
      omega
    · exact htk _ _ x hx
    · exact hsc _ x hx
  · unfold fl at hx
    split at hx
    · cases hx
    · exact nb_bit _ _ x hx
theorem len_all (s : ByteArray) : (allB s ++ fl (allB s)).length % 8 = 0 ∧ (allB s ++ fl (allB s)).length / 8 = ((allB s).length + 7) / 8 := by
  rw [List.length_append]
  unfold fl
  split
  · rw [List.length_nil]; omega
  · rw [nb_len]; omega
theorem pack_size (s : ByteArray) : (pack s).length = ((allB s).length + 7) / 8 := by
  unfold pack
  rw [bytesOf_len _ _ (Nat.le_refl _)]
  exact (len_all s).2
/-- what is packed is unpacked to what it was, whatever stands behind -/
theorem raw_pack {s X : ByteArray} {rest : List UInt8} {m : Nat} (hX : X.data.toList = pack s ++ rest) (hm : s.size ≤ m) (hm2 : m ≤ 262144) : I.raw X (m : Int) = .ok (s.data.toList, (pack s).length) := by
  have hat := at_bytes hX (len_all s).1 (bits_all s)
  have h1 := hat.left
  unfold allB at h1
  rw [List.append_assoc] at h1
  have hh : At X 0 ([1] ++ nb 1 2) := h1.left
  have n1 : I.num X 0 1 = .ok (1, 1) := num_of (v := 1) (n := 1) hh.left (by decide)
  have n2 : I.num X 1 2 = .ok (1, 3) := num_of (v := 1) (n := 2) hh.right (by decide)
  have hu := unpack s X m hm s.size 0 3 (Nat.zero_le _) (by omega) h1.right
  have hb : I.block X m 0 [] = .ok (true, 3 + (toks s s.size 0 ++ sc 256).length, s.data.toList) := I.block_of n1 n2 (by
    show I.syms I.fixA I.fixD X m 3 [] = _
    exact hu)
  rw [I.raw_end hm2 (I.blocks_end hb), pack_size]
  congr 3
  unfold allB
  rw [List.length_append, List.length_append, List.length_append]
  show 3 + _ + 7 = 3 + _ + _ + 7
  omega
end Go.Proofs.YtddiccdfeckgaaaDoor.D
