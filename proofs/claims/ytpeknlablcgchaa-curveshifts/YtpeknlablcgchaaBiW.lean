import Derived.Test.YtpeknlablcgchaaBi0
/- Plain facts on writers: bytes, and how many bits of the last one are free. -/
namespace Go.Proofs.Ytpeknlablcgchaa.B
set_option linter.unusedVariables false

/-- how many bytes, how many free bits, which bytes: behind a writer of m bytes with f free bits, n bits more -/
def putN (m f n : Nat) : Nat := (8 * m - f + n + 7) / 8
def putF (m f n : Nat) : Nat := 8 * putN m f n - (8 * m - f + n)
def putX (l : List UInt8) (f v n : Nat) : Nat := (bv l / P2 f * P2 n + v) * P2 (putF l.length f n)
def putL (l : List UInt8) (f v n : Nat) : List UInt8 := enc (putN l.length f n) (putX l f v n)
/-- the free bits are some of the last byte's, and 0 -/
def Snd (l : List UInt8) (f : Nat) : Prop := f ≤ 7 ∧ f ≤ 8 * l.length ∧ bv l % P2 f = 0

theorem putN_eq (m f n : Nat) : 8 * putN m f n = (8 * m - f + n) + putF m f n := by unfold putF putN; omega
theorem putF_le (m f n : Nat) : putF m f n ≤ 7 := by unfold putF putN; omega
theorem putF_zero (m n : Nat) : putF m 0 n = 8 * ((n + 7) / 8) - n := by unfold putF putN; omega
theorem putN_zero (m n : Nat) : putN m 0 n = m + (n + 7) / 8 := by unfold putN; omega
theorem head_lt (l : List UInt8) (f : Nat) (h : f ≤ 8 * l.length) : bv l / P2 f < P2 (8 * l.length - f) := by
  apply div_lt
  rw [show f + (8 * l.length - f) = 8 * l.length by omega]
  exact bv_lt l
theorem join_lt {x y a n : Nat} (hx : x < P2 a) (hy : y < P2 n) : x * P2 n + y < P2 (a + n) := by
  rw [P2_add]
  have h : (x + 1) * P2 n ≤ P2 a * P2 n := Nat.mul_le_mul_right _ hx
  rw [Nat.add_mul] at h
  omega
theorem shift_lt {x a g : Nat} (hx : x < P2 a) : x * P2 g < P2 (a + g) := by
  have := join_lt (n := g) hx (P2_pos g)
  omega
theorem putX_lt (l : List UInt8) (f v n : Nat) (hf : f ≤ 8 * l.length) (hv : v < P2 n) : putX l f v n < P2 (8 * putN l.length f n) := by
  rw [putN_eq]
  exact shift_lt (join_lt (head_lt l f hf) hv)
theorem putL_len (l : List UInt8) (f v n : Nat) : (putL l f v n).length = putN l.length f n := enc_len _ _
theorem putL_bv (l : List UInt8) (f v n : Nat) (hf : f ≤ 8 * l.length) (hv : v < P2 n) : bv (putL l f v n) = putX l f v n := bv_enc _ _ (putX_lt l f v n hf hv)
theorem putL_head (l : List UInt8) (f v n : Nat) (hf : f ≤ 8 * l.length) (hv : v < P2 n) : bv (putL l f v n) / P2 (putF l.length f n) = bv l / P2 f * P2 n + v := by
  rw [putL_bv l f v n hf hv, putX, Nat.mul_div_cancel _ (P2_pos _)]
theorem putL_snd (l : List UInt8) (f v n : Nat) (hf : f ≤ 8 * l.length) (hv : v < P2 n) : Snd (putL l f v n) (putF l.length f n) := by
  refine ⟨putF_le _ _ _, ?_, ?_⟩
  · rw [putL_len, putN_eq]; omega
  · rw [putL_bv l f v n hf hv, putX, Nat.mul_mod_left]
theorem putF_comp (m f k n : Nat) (hf : f ≤ 8 * m) : putF (putN m f k) (putF m f k) n = putF m f (k + n) := by unfold putF putN; omega
theorem putN_comp (m f k n : Nat) (hf : f ≤ 8 * m) : putN (putN m f k) (putF m f k) n = putN m f (k + n) := by unfold putF putN; omega
theorem putL_comp (l : List UInt8) (f u k v n : Nat) (hf : f ≤ 8 * l.length) (hu : u < P2 k) (hv : v < P2 n) :
    putL (putL l f u k) (putF l.length f k) v n = putL l f (u * P2 n + v) (k + n) := by
  have h := putL_head l f u k hf hu
  unfold putL putX at h ⊢
  rw [enc_len, h, putN_comp _ _ _ _ hf, putF_comp _ _ _ _ hf]
  congr 2
  rw [P2_add, Nat.add_mul, Nat.mul_assoc, Nat.add_assoc]
theorem putL_nil (l : List UInt8) (f : Nat) (h : Snd l f) : putL l f 0 0 = l := by
  obtain ⟨h1, h2, h3⟩ := h
  have e1 : putN l.length f 0 = l.length := by unfold putN; omega
  have e2 : putF l.length f 0 = f := by unfold putF; rw [e1]; omega
  unfold putL putX
  rw [e1, e2, P2_zero, Nat.mul_one, Nat.add_zero, Nat.mul_comm, Nat.mul_div_cancel' (Nat.dvd_of_mod_eq_zero h3)]
  exact enc_bv l
theorem putF_nil (m f : Nat) (h1 : f ≤ 7) (h2 : f ≤ 8 * m) : putF m f 0 = f := by unfold putF putN; omega

/-- no bit is free -/
theorem putL_whole (l : List UInt8) (v n : Nat) (hv : v < P2 n) : putL l 0 v n = l ++ enc ((n + 7) / 8) (v * P2 (putF l.length 0 n)) := by
  have e := putN_zero l.length n
  have hb : v * P2 (putF l.length 0 n) < P2 (8 * ((n + 7) / 8)) := by
    rw [show 8 * ((n + 7) / 8) = n + putF l.length 0 n by rw [putF_zero]; omega]
    exact shift_lt hv
  unfold putL putX
  rw [e, P2_zero, Nat.div_one, Nat.add_mul, Nat.mul_assoc, ← P2_add, show n + putF l.length 0 n = 8 * ((n + 7) / 8) by rw [putF_zero]; omega, enc_append _ _ _ _ hb, enc_bv]
/-- some bits of the last byte are free -/
theorem putL_part (l : List UInt8) (c : UInt8) (f v n : Nat) (hf0 : 1 ≤ f) (hf : f ≤ 7) (hv : v < P2 n) :
    putL (l ++ [c]) f v n = l ++ enc ((n + (8 - f) + 7) / 8) ((c.toNat / P2 f * P2 n + v) * P2 (putF (l.length + 1) f n)) := by
  have hc := c.toNat_lt
  have eN : putN (l.length + 1) f n = l.length + (n + (8 - f) + 7) / 8 := by unfold putN; omega
  have eF : (8 - f) + n + putF (l.length + 1) f n = 8 * ((n + (8 - f) + 7) / 8) := by unfold putF; rw [eN]; omega
  have hq : c.toNat / P2 f < P2 (8 - f) := by
    apply div_lt
    rw [show f + (8 - f) = 8 by omega, P2_8]; exact hc
  have hb : (c.toNat / P2 f * P2 n + v) * P2 (putF (l.length + 1) f n) < P2 (8 * ((n + (8 - f) + 7) / 8)) := by
    rw [← eF]; exact shift_lt (join_lt hq hv)
  have e256 : 256 = P2 f * P2 (8 - f) := by rw [← P2_add, show f + (8 - f) = 8 by omega, P2_8]
  have eh : (256 * bv l + c.toNat) / P2 f = bv l * P2 (8 - f) + c.toNat / P2 f := by
    rw [e256, Nat.mul_assoc, Nat.mul_add_div (P2_pos f), Nat.mul_comm]
  unfold putL putX
  rw [List.length_append, List.length_singleton, eN, bv_snoc, eh]
  rw [show ((bv l * P2 (8 - f) + c.toNat / P2 f) * P2 n + v) * P2 (putF (l.length + 1) f n) = bv l * P2 (8 * ((n + (8 - f) + 7) / 8)) + (c.toNat / P2 f * P2 n + v) * P2 (putF (l.length + 1) f n) by
    rw [← eF, P2_add, P2_add, Nat.add_mul, Nat.add_mul, Nat.add_mul]
    simp only [Nat.mul_assoc, Nat.add_assoc, Nat.add_mul]]
  rw [enc_append _ _ _ _ hb, enc_bv]
theorem enc_one (x : Nat) (h : x < 256) : enc 1 x = [UInt8.ofNat x] := by
  show [] ++ [UInt8.ofNat (x % 256)] = _
  rw [Nat.mod_eq_of_lt h]; rfl
theorem putL_bit0 (l : List UInt8) (b : Nat) (hb : b < 2) : putL l 0 b 1 = l ++ [UInt8.ofNat (128 * b)] ∧ putF l.length 0 1 = 7 := by
  have e : putF l.length 0 1 = 7 := by rw [putF_zero]
  refine ⟨?_, e⟩
  rw [putL_whole l b 1 hb, e]
  show l ++ enc 1 (b * 128) = _
  rw [enc_one _ (by omega), Nat.mul_comm]
theorem putL_bitf (l : List UInt8) (c : UInt8) (f b : Nat) (hb : b < 2) (hf0 : 1 ≤ f) (hf : f ≤ 7) (hz : c.toNat % P2 f = 0) :
    putL (l ++ [c]) f b 1 = l ++ [UInt8.ofNat (c.toNat + b * P2 (f - 1))] ∧ putF (l.length + 1) f 1 = f - 1 ∧ c.toNat + b * P2 (f - 1) < 256 := by
  have eF : putF (l.length + 1) f 1 = f - 1 := by unfold putF putN; omega
  have hP : P2 f = 2 * P2 (f - 1) := by rw [← P2_succ, show f - 1 + 1 = f by omega]
  have hd := Nat.div_add_mod c.toNat (P2 f)
  have ex : (c.toNat / P2 f * P2 1 + b) * P2 (f - 1) = c.toNat + b * P2 (f - 1) := by
    show (c.toNat / P2 f * 2 + b) * P2 (f - 1) = _
    rw [Nat.add_mul, Nat.mul_assoc, ← hP, Nat.mul_comm (c.toNat / P2 f)]
    omega
  have hlt : c.toNat + b * P2 (f - 1) < 256 := by
    have hq : c.toNat / P2 f < P2 (8 - f) := by
      apply div_lt
      rw [show f + (8 - f) = 8 by omega, P2_8]; exact c.toNat_lt
    have h2 := shift_lt (g := f - 1) (join_lt (n := 1) hq (show b < P2 1 from hb))
    rw [ex, show 8 - f + 1 + (f - 1) = 8 by omega, P2_8] at h2
    exact h2
  refine ⟨?_, eF, hlt⟩
  rw [putL_part l c f b 1 hf0 hf hb, eF, ex, show (1 + (8 - f) + 7) / 8 = 1 by omega, enc_one _ hlt]
theorem last_mod (l : List UInt8) (c : UInt8) (f : Nat) (hf : f ≤ 8) : bv (l ++ [c]) % P2 f = c.toNat % P2 f := by
  rw [bv_snoc, show 256 = P2 f * P2 (8 - f) by rw [← P2_add, show f + (8 - f) = 8 by omega, P2_8], Nat.mul_assoc, Nat.mul_add_mod]
theorem enc_get (m x i : Nat) (h : i < m) (h' : i < (enc m x).length) : (enc m x)[i].toNat = x / P2 (8 * (m - 1 - i)) % 256 := by
  induction m generalizing x with
  | zero => omega
  | succ m ih =>
    have hl := enc_len m (x / 256)
    by_cases e : i = m
    · subst e
      have : (enc (i + 1) x)[i] = UInt8.ofNat (x % 256) := by
        simp only [enc]
        rw [List.getElem_append_right (by omega)]
        simp [hl]
      rw [this, ofNat_toNat _ (Nat.mod_lt _ (by omega)), show i + 1 - 1 - i = 0 by omega, Nat.mul_zero, P2_zero, Nat.div_one]
    · have : (enc (m + 1) x)[i] = (enc m (x / 256))[i]'(by omega) := by
        simp only [enc]
        rw [List.getElem_append_left (by omega)]
      rw [this, ih _ (by omega) (by omega), Nat.div_div_eq_div_mul, ← P2_byte, show m - 1 - i + 1 = m + 1 - 1 - i by omega]
/-- the bytes of a number, so many, the lowest first -/
def le : Nat → Nat → List UInt8
  | 0, _ => []
  | n + 1, v => UInt8.ofNat (v % 256) :: le n (v / 256)
theorem le_len (n v : Nat) : (le n v).length = n := by
  induction n generalizing v with
  | zero => rfl
  | succ n ih => simp [le, ih]
theorem le_get (n v i : Nat) (h : i < n) (h' : i < (le n v).length) : (le n v)[i].toNat = v / P2 (8 * i) % 256 := by
  induction n generalizing v i with
  | zero => omega
  | succ n ih =>
    cases i with
    | zero => show (UInt8.ofNat (v % 256)).toNat = _; rw [ofNat_toNat _ (Nat.mod_lt _ (by omega)), Nat.mul_zero, P2_zero, Nat.div_one]
    | succ i =>
      have hi : i < (le n (v / 256)).length := by rw [le_len]; omega
      show ((le n (v / 256))[i]'hi).toNat = _
      rw [ih _ _ (by omega) hi, Nat.div_div_eq_div_mul, ← P2_byte]
theorem lv_le (n v : Nat) (h : v < P2 (8 * n)) : lv (le n v) = v := by
  induction n generalizing v with
  | zero => rw [Nat.mul_zero, P2_zero] at h; simp [le, lv]; omega
  | succ n ih =>
    rw [P2_byte] at h
    rw [le, lv, ih _ (by omega), ofNat_toNat _ (Nat.mod_lt _ (by omega))]
    omega
theorem le_snoc (n v : Nat) : le (n + 1) v = le n v ++ [UInt8.ofNat (v / P2 (8 * n) % 256)] := by
  induction n generalizing v with
  | zero => simp [le, P2_zero]
  | succ n ih => rw [le, ih, le, List.cons_append, Nat.div_div_eq_div_mul, ← P2_byte]
end Go.Proofs.Ytpeknlablcgchaa.B
