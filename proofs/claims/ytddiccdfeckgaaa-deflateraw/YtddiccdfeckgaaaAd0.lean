/- Layer 3, plain: sums of bytes, and of bytes by their places; what both are modulo 65521. -/
namespace Go.Proofs.Ytddiccdfeckgaaa.A
/-- all bytes added -/
def S : List UInt8 → Nat
  | [] => 0
  | c :: l => c.toNat + S l
/-- each byte by its place: the first n times -/
def U : Nat → List UInt8 → Nat
  | _, [] => 0
  | n, c :: l => c.toNat * n + U (n - 1) l
def T (l : List UInt8) : Nat := U l.length l
theorem S_append : ∀ l m : List UInt8, S (l ++ m) = S l + S m
  | [], m => by simp [S]
  | c :: l, m => by simp only [List.cons_append, S]; rw [S_append l m]; omega
theorem U_succ : ∀ (n : Nat) (l : List UInt8), l.length ≤ n → U (n + 1) l = U n l + S l
  | n, [], _ => rfl
  | n, c :: l, h => by
    simp only [List.length_cons] at h
    obtain ⟨m, rfl⟩ : ∃ m, n = m + 1 := ⟨n - 1, by omega⟩
    have ih := U_succ m l (by omega)
    simp only [U, S, Nat.add_sub_cancel]
    rw [ih, Nat.mul_succ c.toNat (m + 1)]
    omega
theorem U_add (l : List UInt8) (n : Nat) (h : l.length ≤ n) : ∀ k, U (n + k) l = U n l + k * S l
  | 0 => by simp
  | k + 1 => by
    rw [show n + (k + 1) = n + k + 1 by omega, U_succ (n + k) l (by omega), U_add l n h k, Nat.succ_mul]
    omega
theorem U_snoc : ∀ (n : Nat) (l : List UInt8) (c : UInt8), l.length ≤ n → U n (l ++ [c]) = U n l + c.toNat * (n - l.length)
  | n, [], c, _ => by simp [U]
  | n, d :: l, c, h => by
    simp only [List.length_cons] at h
    have ih := U_snoc (n - 1) l c (by omega)
    simp only [List.cons_append, U, List.length_cons]
    rw [ih, show n - 1 - l.length = n - (l.length + 1) by omega]
    omega
theorem U_append : ∀ (l m : List UInt8) (n : Nat), n = l.length + m.length → U n (l ++ m) = U n l + U m.length m
  | [], m, n, h => by simp only [List.length_nil, Nat.zero_add] at h; subst h; simp [U]
  | c :: l, m, n, h => by
    simp only [List.length_cons] at h
    have ih := U_append l m (n - 1) (by omega)
    simp only [List.cons_append, U]
    rw [ih]
    omega
theorem T_append (l m : List UInt8) : T (l ++ m) = T l + m.length * S l + T m := by
  unfold T
  rw [List.length_append, U_append l m _ rfl, U_add l l.length (Nat.le_refl _)]
theorem T_snoc (l : List UInt8) (c : UInt8) : T (l ++ [c]) = T l + S l + c.toNat := by
  rw [T_append]
  simp [T, U]
theorem S_le : ∀ l : List UInt8, S l ≤ 255 * l.length
  | [] => by simp [S]
  | c :: l => by
    have := S_le l
    have := c.toNat_lt
    simp only [S, List.length_cons]
    omega
/-- the parts of any number -/
def lo (x : Int) : Nat := (x % 65536).toNat % 65521
def hi (x : Int) : Nat := (x / 65536 % 65536).toNat % 65521
theorem lo_lt (x : Int) : lo x < 65521 := Nat.mod_lt _ (by omega)
theorem hi_lt (x : Int) : hi x < 65521 := Nat.mod_lt _ (by omega)
/-- both parts behind bytes -/
def pa (a : Nat) (l : List UInt8) : Nat := (a + S l) % 65521
def pb (a b : Nat) (l : List UInt8) : Nat := (b + l.length * a + T l) % 65521
def whole (a b : Nat) : Nat := b * 65536 + a
def more (x : Int) (l : List UInt8) : Nat := whole (pa (lo x) l) (pb (lo x) (hi x) l)
def join (x y n : Int) : Nat :=
  whole ((lo y + (lo x + 65520) % 65521) % 65521) ((hi x + hi y + (max n 0).toNat % 65521 * ((lo x + 65520) % 65521)) % 65521)
theorem whole_eq {a b c d : Nat} (h : a = c) (k : b = d) : whole a b = whole c d := by rw [h, k]
theorem pa_lt (a : Nat) (l : List UInt8) : pa a l < 65521 := Nat.mod_lt _ (by omega)
theorem pb_lt (a b : Nat) (l : List UInt8) : pb a b l < 65521 := Nat.mod_lt _ (by omega)
theorem lo_whole {a b : Nat} (ha : a < 65521) : lo (whole a b : Nat) = a := by unfold lo whole; omega
theorem hi_whole {a b : Nat} (ha : a < 65521) (hb : b < 65521) : hi (whole a b : Nat) = b := by unfold hi whole; omega
theorem lo_more (x : Int) (l : List UInt8) : lo (more x l : Nat) = pa (lo x) l := lo_whole (pa_lt _ _)
theorem hi_more (x : Int) (l : List UInt8) : hi (more x l : Nat) = pb (lo x) (hi x) l := hi_whole (pa_lt _ _) (pb_lt _ _ _)
theorem more_lt (x : Int) (l : List UInt8) : more x l < 4293984256 := by
  have h1 := pa_lt (lo x) l
  have h2 := pb_lt (lo x) (hi x) l
  unfold more whole
  omega
theorem pa_nil (a : Nat) (h : a < 65521) : pa a [] = a := by simp [pa, S]; omega
theorem pb_nil (a b : Nat) (h : b < 65521) : pb a b [] = b := by simp [pb, T, U]; omega
theorem pa_snoc (a : Nat) (l : List UInt8) (c : UInt8) : pa a (l ++ [c]) = (pa a l + c.toNat) % 65521 := by
  unfold pa
  rw [S_append]
  simp only [S]
  omega
theorem pb_snoc (a b : Nat) (l : List UInt8) (c : UInt8) : pb a b (l ++ [c]) = (pb a b l + pa a (l ++ [c])) % 65521 := by
  unfold pb pa
  rw [S_append, T_snoc]
  simp only [S, List.length_append, List.length_cons, List.length_nil, Nat.succ_mul, Nat.zero_add]
  omega
theorem more_more (x : Int) (l m : List UInt8) : more (more x l : Nat) m = more x (l ++ m) := by
  show whole (pa (lo (more x l : Nat)) m) (pb (lo (more x l : Nat)) (hi (more x l : Nat)) m) = whole _ _
  rw [lo_more, hi_more]
  refine whole_eq ?_ ?_
  · unfold pa
    rw [S_append]
    omega
  · unfold pb pa
    rw [T_append, List.length_append, Nat.add_mul]
    have e : (m.length * ((lo x + S l) % 65521)) % 65521 = (m.length * lo x + m.length * S l) % 65521 := by
      rw [Nat.mul_mod, Nat.mod_mod, ← Nat.mul_mod, Nat.mul_add]
    omega
theorem join_more (l m : List UInt8) (n : Int) (hn : n = m.length) : join (more 1 l : Nat) (more 1 m : Nat) n = more 1 (l ++ m) := by
  subst hn
  unfold join
  rw [lo_more, hi_more, lo_more, hi_more, show lo 1 = 1 by decide, show hi 1 = 0 by decide, show (max (m.length : Int) 0).toNat = m.length by omega]
  unfold more
  rw [show lo 1 = 1 by decide, show hi 1 = 0 by decide]
  have e0 : (pa 1 l + 65520) % 65521 = S l % 65521 := by unfold pa; omega
  rw [e0]
  refine whole_eq ?_ ?_
  · unfold pa
    rw [S_append]
    omega
  · have e : (m.length % 65521 * (S l % 65521)) % 65521 = (m.length * S l) % 65521 := (Nat.mul_mod _ _ _).symm
    unfold pb
    rw [T_append, List.length_append]
    generalize m.length % 65521 * (S l % 65521) = r at e ⊢
    generalize m.length * S l = q at e ⊢
    omega
theorem join_none {a b : Nat} (n : Int) (ha : a < 65521) (hb : b < 65521) (hn : n ≤ 0) : join (whole a b : Nat) 1 n = whole a b := by
  unfold join
  rw [lo_whole ha, hi_whole ha hb, show lo 1 = 1 by decide, show hi 1 = 0 by decide, show (max n 0).toNat = 0 by omega]
  refine whole_eq ?_ ?_
  · omega
  · simp; omega
/-- the document's way: n is known ahead, the parts are reduced at the end -/
theorem ref_b (a b n : Nat) (l : List UInt8) (h : n = l.length) : (b + n % 65521 * a + U n l) % 65521 = pb a b l := by
  subst h
  unfold pb T
  have e : (l.length % 65521 * a) % 65521 = (l.length * a) % 65521 := by rw [Nat.mul_mod, Nat.mod_mod, ← Nat.mul_mod]
  omega
end Go.Proofs.Ytddiccdfeckgaaa.A
