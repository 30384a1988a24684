import Derived.Test.YtpeknlablcgchaaN0
/- Layer 16, plain: curves, how far they bend, their pieces, their points. -/
namespace Go.Proofs.Ytpeknlablcgchaa
/-- a part that may be a curve's -/
def evB (x : Int) : Bool := decide (-16777216 ≤ x) && decide (x ≤ 16777216) && decide (x % 2 = 0)
def evP (x y : Int) : Bool := evB x && evB y
theorem evB_bd {x : Int} (h : evB x = true) : (-16777216 ≤ x ∧ x ≤ 16777216) ∧ x % 2 = 0 := by
  simp [evB] at h; omega
theorem evB_of {x : Int} (h0 : -16777216 ≤ x) (h1 : x ≤ 16777216) (h2 : x % 2 = 0) : evB x = true := by
  simp [evB]; omega
theorem evP_bd {x y : Int} (h : evP x y = true) : ((-16777216 ≤ x ∧ x ≤ 16777216) ∧ x % 2 = 0) ∧ ((-16777216 ≤ y ∧ y ≤ 16777216) ∧ y % 2 = 0) := by
  unfold evP at h
  rw [Bool.and_eq_true] at h
  exact ⟨evB_bd h.1, evB_bd h.2⟩
theorem evP_of {x y : Int} (h : evB x = true) (h2 : evB y = true) : evP x y = true := by unfold evP; rw [h, h2]; rfl
/-- how far one part bends -/
def bnd (a b c : Int) : Int := max (a - 2 * b + c) (-(a - 2 * b + c))
/-- how far a curve bends -/
def bendV (ax ay bx by1 cx cy : Int) : Int := max (bnd ax bx cx) (bnd ay by1 cy)
/-- how many pieces -/
def pie (d : Int) : Nat := if d ≤ 8 then 1 else if d ≤ 32 then 2 else if d ≤ 128 then 4 else if d ≤ 512 then 8 else if d ≤ 2048 then 16 else 32
theorem pie_six (d : Int) : pie d = 1 ∨ pie d = 2 ∨ pie d = 4 ∨ pie d = 8 ∨ pie d = 16 ∨ pie d = 32 := by
  unfold pie; repeat' split
  all_goals simp
theorem pie_bd (d : Int) : 1 ≤ pie d ∧ pie d ≤ 32 := by
  unfold pie; repeat' split
  all_goals simp
/-- where it bends at most 8192, the pieces are enough -/
theorem pie_enough (d : Int) (h : d ≤ 8192) : d ≤ 8 * ((pie d : Int) * (pie d : Int)) := by
  unfold pie; repeat' split
  all_goals simp
  all_goals omega
/-- a part of the curve's point i of n, times n n -/
def num (a b c i n : Int) : Int := a * (n - i) * (n - i) + 2 * b * i * (n - i) + c * i * i
/-- the point's part -/
def ptV (a b c i n : Int) : Int := 2 * ((num a b c i n + n * n) / (2 * (n * n)))
theorem num_bd {a b c i n M : Int} (ha : -M ≤ a ∧ a ≤ M) (hb : -M ≤ b ∧ b ≤ M) (hc : -M ≤ c ∧ c ≤ M) (hi : 0 ≤ i ∧ i ≤ n) : -(M * (n * n)) ≤ num a b c i n ∧ num a b c i n ≤ M * (n * n) := by
  obtain ⟨l, hl⟩ : ∃ l, l = n - i := ⟨_, rfl⟩
  have hn : n = l + i := by omega
  have h0 : 0 ≤ l := by omega
  have e : num a b c i n = a * (l * l) + b * (2 * (i * l)) + c * (i * i) := by unfold num; rw [← hl]; grind
  have e2 : n * n = l * l + 2 * (i * l) + i * i := by rw [hn]; grind
  have p1 : 0 ≤ l * l := Int.mul_nonneg h0 h0
  have p2 : 0 ≤ 2 * (i * l) := Int.mul_nonneg (by decide) (Int.mul_nonneg hi.1 h0)
  have p3 : 0 ≤ i * i := Int.mul_nonneg hi.1 hi.1
  have a1 := Int.mul_le_mul_of_nonneg_right ha.2 p1
  have a2 := Int.mul_le_mul_of_nonneg_right ha.1 p1
  have b1 := Int.mul_le_mul_of_nonneg_right hb.2 p2
  have b2 := Int.mul_le_mul_of_nonneg_right hb.1 p2
  have c1 := Int.mul_le_mul_of_nonneg_right hc.2 p3
  have c2 := Int.mul_le_mul_of_nonneg_right hc.1 p3
  rw [e, e2]
  constructor
  · have : -(M * (l * l + 2 * (i * l) + i * i)) = -M * (l * l) + -M * (2 * (i * l)) + -M * (i * i) := by grind
    omega
  · have : M * (l * l + 2 * (i * l) + i * i) = M * (l * l) + M * (2 * (i * l)) + M * (i * i) := by grind
    omega
/-- all lie between the ends -/
theorem num_in {a b c i n lo hi : Int} (ha : lo ≤ a ∧ a ≤ hi) (hb : lo ≤ b ∧ b ≤ hi) (hc : lo ≤ c ∧ c ≤ hi) (h : 0 ≤ i ∧ i ≤ n) : lo * (n * n) ≤ num a b c i n ∧ num a b c i n ≤ hi * (n * n) := by
  obtain ⟨l, hl⟩ : ∃ l, l = n - i := ⟨_, rfl⟩
  have hn : n = l + i := by omega
  have h0 : 0 ≤ l := by omega
  have e : num a b c i n = a * (l * l) + b * (2 * (i * l)) + c * (i * i) := by unfold num; rw [← hl]; grind
  have e2 : n * n = l * l + 2 * (i * l) + i * i := by rw [hn]; grind
  have p1 : 0 ≤ l * l := Int.mul_nonneg h0 h0
  have p2 : 0 ≤ 2 * (i * l) := Int.mul_nonneg (by decide) (Int.mul_nonneg h.1 h0)
  have p3 : 0 ≤ i * i := Int.mul_nonneg h.1 h.1
  have a1 := Int.mul_le_mul_of_nonneg_right ha.2 p1
  have a2 := Int.mul_le_mul_of_nonneg_right ha.1 p1
  have b1 := Int.mul_le_mul_of_nonneg_right hb.2 p2
  have b2 := Int.mul_le_mul_of_nonneg_right hb.1 p2
  have c1 := Int.mul_le_mul_of_nonneg_right hc.2 p3
  have c2 := Int.mul_le_mul_of_nonneg_right hc.1 p3
  rw [e, e2]
  constructor
  · have : lo * (l * l + 2 * (i * l) + i * i) = lo * (l * l) + lo * (2 * (i * l)) + lo * (i * i) := by grind
    omega
  · have : hi * (l * l + 2 * (i * l) + i * i) = hi * (l * l) + hi * (2 * (i * l)) + hi * (i * i) := by grind
    omega
/-- twice the nearest whole number: beside the quotient by no more than one -/
theorem near_q (m s : Int) (hs : 0 < s) : m - s < 2 * ((m + s) / (2 * s)) * s ∧ 2 * ((m + s) / (2 * s)) * s ≤ m + s := by
  obtain ⟨q, hq⟩ : ∃ q, q = (m + s) / (2 * s) := ⟨_, rfl⟩
  have h1 := Int.ediv_mul_le (m + s) (show 2 * s ≠ 0 by omega)
  have h2 := Int.lt_ediv_add_one_mul_self (m + s) (show 0 < 2 * s by omega)
  rw [← hq] at h1 h2 ⊢
  have e1 : q * (2 * s) = 2 * q * s := by grind
  have e2 : (q + 1) * (2 * s) = 2 * q * s + 2 * s := by grind
  rw [e1] at h1
  rw [e2] at h2
  omega
theorem sq_pos {n : Int} (h : 0 < n) : 0 < n * n := Int.mul_pos h h
theorem ptV_near (a b c i n : Int) (hn : 0 < n) : num a b c i n - n * n < ptV a b c i n * (n * n) ∧ ptV a b c i n * (n * n) ≤ num a b c i n + n * n := near_q _ _ (sq_pos hn)
theorem ptV_even (a b c i n : Int) : ptV a b c i n % 2 = 0 := by unfold ptV; omega
theorem lt_of_mul {x y s : Int} (hs : 0 < s) (h : x * s < y * s) : x < y := Int.lt_of_mul_lt_mul_right h (by omega)
theorem ptV_in {a b c i n lo hi : Int} (ha : lo ≤ a ∧ a ≤ hi) (hb : lo ≤ b ∧ b ≤ hi) (hc : lo ≤ c ∧ c ≤ hi) (h : 0 ≤ i ∧ i ≤ n) (hn : 0 < n) (hl : lo % 2 = 0) (hh : hi % 2 = 0) : lo ≤ ptV a b c i n ∧ ptV a b c i n ≤ hi := by
  have ⟨n1, n2⟩ := ptV_near a b c i n hn
  have ⟨m1, m2⟩ := num_in ha hb hc h
  have hs := sq_pos hn
  have ev := ptV_even a b c i n
  generalize ptV a b c i n = p at *
  generalize n * n = s at *
  constructor
  · have : (lo - 1) * s < p * s := by
      have e : (lo - 1) * s = lo * s - s := by grind
      omega
    have := lt_of_mul hs this
    omega
  · have : p * s < (hi + 1 + 1) * s := by
      have e : (hi + 1 + 1) * s = hi * s + s + s := by grind
      omega
    have := lt_of_mul hs this
    omega
theorem min3 (a b c : Int) : (min (min a b) c ≤ a ∧ min (min a b) c ≤ b ∧ min (min a b) c ≤ c) ∧ (min (min a b) c = a ∨ min (min a b) c = b ∨ min (min a b) c = c) := by omega
theorem max3 (a b c : Int) : (a ≤ max (max a b) c ∧ b ≤ max (max a b) c ∧ c ≤ max (max a b) c) ∧ (max (max a b) c = a ∨ max (max a b) c = b ∨ max (max a b) c = c) := by omega
/-- the last point is the end -/
theorem ptV_last {a b c n : Int} (hn : 0 < n) (hc : c % 2 = 0) : ptV a b c n n = c := by
  have ⟨n1, n2⟩ := ptV_near a b c n n hn
  have ev := ptV_even a b c n n
  have e : num a b c n n = c * (n * n) := by unfold num; grind
  have hs := sq_pos hn
  rw [e] at n1 n2
  generalize ptV a b c n n = p at *
  generalize n * n = s at *
  have h1 : (c - 1) * s < p * s := by
    have e : (c - 1) * s = c * s - s := by grind
    omega
  have h2 : p * s < (c + 2) * s := by
    have e : (c + 2) * s = c * s + s + s := by grind
    omega
  have := lt_of_mul hs h1
  have := lt_of_mul hs h2
  omega
/-- the curve's points -/
def flatL (ax ay bx by1 cx cy : Int) : List (Int × Int) :=
  (List.range (pie (bendV ax ay bx by1 cx cy))).map fun (i : Nat) => (ptV ax bx cx ((i : Int) + 1) (pie (bendV ax ay bx by1 cx cy) : Int), ptV ay by1 cy ((i : Int) + 1) (pie (bendV ax ay bx by1 cx cy) : Int))
theorem flatL_len (ax ay bx by1 cx cy : Int) : (flatL ax ay bx by1 cx cy).length = pie (bendV ax ay bx by1 cx cy) := by simp [flatL]
theorem flatL_at (ax ay bx by1 cx cy : Int) (i : Nat) (h : i < pie (bendV ax ay bx by1 cx cy)) : (flatL ax ay bx by1 cx cy)[i]? = some (ptV ax bx cx ((i : Int) + 1) (pie (bendV ax ay bx by1 cx cy) : Int), ptV ay by1 cy ((i : Int) + 1) (pie (bendV ax ay bx by1 cx cy) : Int)) := by
  unfold flatL
  rw [List.getElem?_map, List.getElem?_range h]
  rfl
/-- a bend is no less than 0, and the same from either end -/
theorem bnd_bd {a b c : Int} (ha : -16777216 ≤ a ∧ a ≤ 16777216) (hb : -16777216 ≤ b ∧ b ≤ 16777216) (hc : -16777216 ≤ c ∧ c ≤ 16777216) : 0 ≤ bnd a b c ∧ bnd a b c ≤ 67108864 := by unfold bnd; omega
theorem bnd_swap (a b c : Int) : bnd a b c = bnd c b a := by unfold bnd; omega
theorem bnd_shift (a b c d : Int) : bnd (a + d) (b + d) (c + d) = bnd a b c := by unfold bnd; omega
theorem bendV_swap (ax ay bx by1 cx cy : Int) : bendV ax ay bx by1 cx cy = bendV cx cy bx by1 ax ay := by unfold bendV; rw [bnd_swap ax, bnd_swap ay]
theorem bendV_shift (ax ay bx by1 cx cy d e : Int) : bendV (ax + d) (ay + e) (bx + d) (by1 + e) (cx + d) (cy + e) = bendV ax ay bx by1 cx cy := by unfold bendV; rw [bnd_shift, bnd_shift]
/-- shifted by even units -/
theorem ptV_shift (a b c i n x : Int) (hn : 0 < n) : ptV (a + 2 * x) (b + 2 * x) (c + 2 * x) i n = ptV a b c i n + 2 * x := by
  have e : num (a + 2 * x) (b + 2 * x) (c + 2 * x) i n = num a b c i n + x * (2 * (n * n)) := by unfold num; grind
  have hs := sq_pos hn
  unfold ptV
  rw [e, show num a b c i n + x * (2 * (n * n)) + n * n = (num a b c i n + n * n) + x * (2 * (n * n)) by omega, Int.add_mul_ediv_right _ _ (by omega)]
  omega
end Go.Proofs.Ytpeknlablcgchaa
