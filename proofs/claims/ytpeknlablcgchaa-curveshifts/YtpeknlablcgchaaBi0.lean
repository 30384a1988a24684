/- Plain facts on powers of two, bytes as a number (the first byte the highest), and fields of their bits. -/
namespace Go.Proofs.Ytpeknlablcgchaa.B

def P2 (n : Nat) : Nat := 2 ^ n
theorem P2_zero : P2 0 = 1 := rfl
theorem P2_succ (n : Nat) : P2 (n + 1) = 2 * P2 n := by unfold P2; rw [Nat.pow_succ]; omega
theorem P2_pos (n : Nat) : 0 < P2 n := Nat.two_pow_pos n
theorem P2_add (a b : Nat) : P2 (a + b) = P2 a * P2 b := Nat.pow_add 2 a b
theorem P2_le {a b : Nat} (h : a ≤ b) : P2 a ≤ P2 b := Nat.pow_le_pow_right (by omega) h
theorem P2_lt {a b : Nat} (h : a < b) : P2 a < P2 b := Nat.pow_lt_pow_right (by omega) h
theorem P2_8 : P2 8 = 256 := rfl
theorem P2_dvd {a b : Nat} (h : a ≤ b) : P2 a ∣ P2 b := Nat.pow_dvd_pow 2 h
theorem P2_sub {a b : Nat} (h : a ≤ b) : P2 b = P2 a * P2 (b - a) := by rw [← P2_add]; congr 1; omega
theorem P2_byte (k : Nat) : P2 (8 * (k + 1)) = 256 * P2 (8 * k) := by rw [show 8 * (k + 1) = 8 + 8 * k by omega, P2_add, P2_8]

theorem div_div (x a b : Nat) : x / P2 a / P2 b = x / P2 (a + b) := by rw [Nat.div_div_eq_div_mul, P2_add]
theorem mod_div (x a b : Nat) : x % P2 (a + b) / P2 a = x / P2 a % P2 b := by rw [P2_add, Nat.mod_mul_right_div_self]
theorem mod_mod {n a : Nat} (x : Nat) (h : n ≤ a) : x % P2 a % P2 n = x % P2 n := Nat.mod_mod_of_dvd x (P2_dvd h)
theorem mod_split (x n m : Nat) : x % P2 (n + m) = x / P2 m % P2 n * P2 m + x % P2 m := by
  rw [Nat.add_comm n m, P2_add, Nat.mod_mul, Nat.mul_comm (P2 m), Nat.add_comm]
theorem div_lt {x a b : Nat} (h : x < P2 (a + b)) : x / P2 a < P2 b := by
  rw [Nat.div_lt_iff_lt_mul (P2_pos a), Nat.mul_comm, ← P2_add]; exact h
theorem mul_add_div (x y m : Nat) (h : y < P2 m) : (x * P2 m + y) / P2 m = x := by
  rw [Nat.mul_comm, Nat.mul_add_div (P2_pos m), Nat.div_eq_of_lt h]; omega
theorem mul_add_mod (x y m : Nat) (h : y < P2 m) : (x * P2 m + y) % P2 m = y := by
  rw [Nat.mul_comm, Nat.mul_add_mod, Nat.mod_eq_of_lt h]

/-- bytes as a number -/
def bv (l : List UInt8) : Nat := l.foldl (fun a b => 256 * a + b.toNat) 0
theorem bv_nil : bv [] = 0 := rfl
theorem bv_snoc (l : List UInt8) (b : UInt8) : bv (l ++ [b]) = 256 * bv l + b.toNat := by simp [bv]
theorem snoc_induct {p : List UInt8 → Prop} (h0 : p []) (h1 : ∀ l b, p l → p (l ++ [b])) (l : List UInt8) : p l := by
  have H : ∀ n (l : List UInt8), l.length = n → p l := by
    intro n
    induction n with
    | zero => intro l h; rw [List.length_eq_zero_iff.1 h]; exact h0
    | succ n ih =>
      intro l h
      have hne : l ≠ [] := by intro e; rw [e] at h; simp at h
      rw [← List.dropLast_concat_getLast hne]
      exact h1 _ _ (ih _ (by simp [h]))
  exact H _ l rfl
theorem bv_append (a b : List UInt8) : bv (a ++ b) = bv a * P2 (8 * b.length) + bv b := by
  induction b using snoc_induct with
  | h0 => simp [bv_nil, P2_zero]
  | h1 l c ih =>
    rw [← List.append_assoc, bv_snoc, bv_snoc, ih, List.length_append, List.length_singleton, P2_byte, Nat.mul_add, Nat.mul_left_comm, Nat.add_assoc]
theorem bv_lt (l : List UInt8) : bv l < P2 (8 * l.length) := by
  induction l using snoc_induct with
  | h0 => simp [bv_nil, P2_zero]
  | h1 l c ih =>
    rw [bv_snoc, List.length_append, List.length_singleton, P2_byte]
    have := c.toNat_lt
    omega
theorem bv_take (l : List UInt8) (k : Nat) : bv (l.take k) = bv l / P2 (8 * (l.length - k)) := by
  have h := bv_append (l.take k) (l.drop k)
  rw [List.take_append_drop, List.length_drop] at h
  have hl := bv_lt (l.drop k)
  rw [List.length_drop] at hl
  rw [h, mul_add_div _ _ _ hl]
theorem bv_drop (l : List UInt8) (k : Nat) : bv (l.drop k) = bv l % P2 (8 * (l.length - k)) := by
  have h := bv_append (l.take k) (l.drop k)
  rw [List.take_append_drop, List.length_drop] at h
  have hl := bv_lt (l.drop k)
  rw [List.length_drop] at hl
  rw [h, mul_add_mod _ _ _ hl]

/-- the bytes of a number, so many -/
def enc : Nat → Nat → List UInt8
  | 0, _ => []
  | m + 1, x => enc m (x / 256) ++ [UInt8.ofNat (x % 256)]
theorem enc_len (m x : Nat) : (enc m x).length = m := by
  induction m generalizing x with
  | zero => rfl
  | succ m ih => simp [enc, ih]
theorem ofNat_toNat (x : Nat) (h : x < 256) : (UInt8.ofNat x).toNat = x := by simp; omega
theorem enc_snoc (m : Nat) (x : Nat) (b : UInt8) : enc (m + 1) (256 * x + b.toNat) = enc m x ++ [b] := by
  have := b.toNat_lt
  rw [enc, show (256 * x + b.toNat) / 256 = x by omega, show (256 * x + b.toNat) % 256 = b.toNat by omega]
  simp
theorem enc_bv (l : List UInt8) : enc l.length (bv l) = l := by
  induction l using snoc_induct with
  | h0 => rfl
  | h1 l c ih => rw [bv_snoc, List.length_append, List.length_singleton, enc_snoc, ih]
theorem bv_enc (m x : Nat) (h : x < P2 (8 * m)) : bv (enc m x) = x := by
  induction m generalizing x with
  | zero => rw [Nat.mul_zero, P2_zero] at h; simp [enc, bv_nil]; omega
  | succ m ih =>
    rw [P2_byte] at h
    rw [enc, bv_snoc, ih _ (by omega), ofNat_toNat _ (Nat.mod_lt _ (by omega))]
    omega
theorem bv_inj {a b : List UInt8} (hl : a.length = b.length) (h : bv a = bv b) : a = b := by
  rw [← enc_bv a, ← enc_bv b, hl, h]
theorem enc_append (a b x y : Nat) (h : y < P2 (8 * b)) : enc (a + b) (x * P2 (8 * b) + y) = enc a x ++ enc b y := by
  induction b generalizing y with
  | zero => rw [Nat.mul_zero, P2_zero] at h; simp [enc, P2_zero]; congr 1; omega
  | succ b ih =>
    rw [P2_byte] at h
    rw [P2_byte, show a + (b + 1) = a + b + 1 from rfl, enc, enc]
    have e1 : (x * (256 * P2 (8 * b)) + y) / 256 = x * P2 (8 * b) + y / 256 := by
      rw [Nat.mul_left_comm, Nat.mul_add_div (by omega)]
    have e2 : (x * (256 * P2 (8 * b)) + y) % 256 = y % 256 := by
      rw [Nat.mul_left_comm, Nat.mul_add_mod]
    rw [e1, e2, ih _ (by omega), List.append_assoc]

/-- the field of n bits from bit p on -/
def fld (l : List UInt8) (p n : Nat) : Nat := bv l / P2 (8 * l.length - (p + n)) % P2 n
theorem fld_lt (l : List UInt8) (p n : Nat) : fld l p n < P2 n := Nat.mod_lt _ (P2_pos n)
theorem fld_zero (l : List UInt8) (p : Nat) : fld l p 0 = 0 := by unfold fld; rw [P2_zero, Nat.mod_one]
theorem fld_split (l : List UInt8) (p n m : Nat) (h : p + n + m ≤ 8 * l.length) : fld l p (n + m) = fld l p n * P2 m + fld l (p + n) m := by
  unfold fld
  rw [mod_split, div_div]
  rw [show 8 * l.length - (p + (n + m)) + m = 8 * l.length - (p + n) by omega, show 8 * l.length - (p + n + m) = 8 * l.length - (p + (n + m)) by omega]
theorem fld_number (l : List UInt8) (a b : Nat) (hab : a ≤ b) (hb : b ≤ 8 * l.length) :
    bv ((l.take ((b + 7) / 8)).drop (a / 8)) / P2 (8 * ((b + 7) / 8) - b) % P2 (b - a) = fld l a (b - a) := by
  obtain ⟨e, he⟩ : ∃ e, e = (b + 7) / 8 := ⟨_, rfl⟩
  obtain ⟨f, hf⟩ : ∃ f, f = a / 8 := ⟨_, rfl⟩
  rw [← he, ← hf, bv_drop, bv_take, List.length_take, Nat.min_eq_left (by omega)]
  obtain ⟨d, hd⟩ : ∃ d, d = 8 * e - b := ⟨_, rfl⟩
  rw [← hd, show 8 * (e - f) = d + (8 * (e - f) - d) by omega, mod_div, mod_mod _ (by omega), div_div]
  unfold fld
  rw [show 8 * (l.length - e) + d = 8 * l.length - (a + (b - a)) by omega]
theorem take_drop_snoc (l : List UInt8) (f i : Nat) (hf : f ≤ i) (hi : i < l.length) : (l.take (i + 1)).drop f = (l.take i).drop f ++ [l[i]] := by
  rw [List.take_succ_eq_append_getElem hi, List.drop_append_of_le_length (by simp; omega)]
theorem bv_part_snoc (l : List UInt8) (f i : Nat) (hf : f ≤ i) (hi : i < l.length) : bv ((l.take (i + 1)).drop f) = 256 * bv ((l.take i).drop f) + l[i].toNat := by
  rw [take_drop_snoc l f i hf hi, bv_snoc]
theorem bv_part_nil (l : List UInt8) (f : Nat) : bv ((l.take f).drop f) = 0 := by
  rw [List.drop_eq_nil_of_le (by simp; omega)]; rfl
theorem bv_part_lt (l : List UInt8) (f i k : Nat) (h : i ≤ f + k) : bv ((l.take i).drop f) < P2 (8 * k) := by
  refine Nat.lt_of_lt_of_le (bv_lt _) (P2_le ?_)
  simp only [List.length_drop, List.length_take]
  omega
theorem fld_bit (l : List UInt8) (i : Nat) (h : i / 8 < l.length) : fld l i 1 = l[i / 8].toNat / P2 (7 - i % 8) % 2 := by
  have hk := bv_take l (i / 8 + 1)
  rw [List.take_succ_eq_append_getElem h, bv_snoc] at hk
  unfold fld
  rw [show 8 * l.length - (i + 1) = 8 * (l.length - (i / 8 + 1)) + (7 - i % 8) by omega, ← div_div, ← hk]
  have e : 256 = P2 (7 - i % 8) * P2 (i % 8 + 1) := by rw [← P2_add, show 7 - i % 8 + (i % 8 + 1) = 8 by omega, P2_8]
  rw [e, Nat.mul_assoc, Nat.mul_add_div (P2_pos _), P2_succ]
  show _ % 2 = _
  rw [Nat.mul_assoc, Nat.mul_add_mod]
theorem fld_byte (l : List UInt8) (k : Nat) (h : k < l.length) : fld l (8 * k) 8 = l[k].toNat := by
  have hk := bv_take l (k + 1)
  rw [List.take_succ_eq_append_getElem h, bv_snoc] at hk
  unfold fld
  rw [show 8 * l.length - (8 * k + 8) = 8 * (l.length - (k + 1)) by omega, ← hk, P2_8]
  have := l[k].toNat_lt
  omega
theorem fld_all (l : List UInt8) (p n k : Nat) (hk : k = 8 * l.length - (p + n)) : fld l p n = bv l / P2 k % P2 n := by rw [hk]; rfl

/-- bytes as a number, the first byte the lowest -/
def lv : List UInt8 → Nat
  | [] => 0
  | b :: l => b.toNat + 256 * lv l
theorem lv_snoc (l : List UInt8) (b : UInt8) : lv (l ++ [b]) = lv l + b.toNat * P2 (8 * l.length) := by
  induction l with
  | nil => simp [lv, P2_zero]
  | cons c l ih =>
    rw [List.cons_append, lv, ih, lv, List.length_cons, P2_byte, Nat.mul_add, Nat.mul_left_comm]
    omega
theorem lv_lt (l : List UInt8) : lv l < P2 (8 * l.length) := by
  induction l with
  | nil => simp [lv, P2_zero]
  | cons c l ih =>
    rw [lv, List.length_cons, P2_byte]
    have := c.toNat_lt
    omega
theorem lv_take_succ (l : List UInt8) (k : Nat) (h : k < l.length) : lv (l.take (k + 1)) = lv (l.take k) + l[k].toNat * P2 (8 * k) := by
  rw [List.take_succ_eq_append_getElem h, lv_snoc, List.length_take, Nat.min_eq_left (by omega)]
theorem lv_take_lt (l : List UInt8) (k : Nat) : lv (l.take k) < P2 (8 * k) := by
  refine Nat.lt_of_lt_of_le (lv_lt _) (P2_le ?_)
  rw [List.length_take]; omega
theorem lv_take_all (l : List UInt8) (k : Nat) (h : l.length ≤ k) : lv (l.take k) = lv l := by rw [List.take_of_length_le h]
end Go.Proofs.Ytpeknlablcgchaa.B
