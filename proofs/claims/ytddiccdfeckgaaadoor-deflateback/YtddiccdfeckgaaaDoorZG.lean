import Derived.Test.YtddiccdfeckgaaaDoorProg
import Derived.Test.YtddiccdfeckgaaaDoorZA
import Derived.WalkKit
import Derived.WalkSpells
import Derived.WalkLawsBesides
import Derived.Laws.BitsAllLaws
import Derived.Lib.Hide
import Derived.Outline
/- Layer 3, plain: sums of bytes, and of bytes by their places; what both are modulo 65521. -/
namespace Go.Proofs.YtddiccdfeckgaaaDoor.A
/-- all bytes added -/
def S : List UInt8 → Nat
  | [] => 0
  | c :: l => c.toNat + S l
/-- each byte by its place: the first n times -/
def U : Nat → List UInt8 → Nat
  | _, [] => 0
  | n, c :: l => c.toNat * n + U (n - 1) l
def T (l : List UInt8) : Nat := U l.length l
theorem S_append : ∀ l m : List UInt8, S (l ++ m) = S l + S m
  | [], m => by simp [S]
  | c :: l, m => by simp only [List.cons_append, S]; rw [S_append l m]; omega
theorem U_succ : ∀ (n : Nat) (l : List UInt8), l.length ≤ n → U (n + 1) l = U n l + S l
  | n, [], _ => rfl
  | n, c :: l, h => by
    simp only [List.length_cons] at h
    obtain ⟨m, rfl⟩ : ∃ m, n = m + 1 := ⟨n - 1, by omega⟩
    have ih := U_succ m l (by omega)
    simp only [U, S, Nat.add_sub_cancel]
    rw [ih, Nat.mul_succ c.toNat (m + 1)]
    omega
theorem U_add (l : List UInt8) (n : Nat) (h : l.length ≤ n) : ∀ k, U (n + k) l = U n l + k * S l
  | 0 => by simp
  | k + 1 => by
    rw [show n + (k + 1) = n + k + 1 by omega, U_succ (n + k) l (by omega), U_add l n h k, Nat.succ_mul]
    omega
theorem U_snoc : ∀ (n : Nat) (l : List UInt8) (c : UInt8), l.length ≤ n → U n (l ++ [c]) = U n l + c.toNat * (n - l.length)
  | n, [], c, _ => by simp [U]
  | n, d :: l, c, h => by
    simp only [List.length_cons] at h
    have ih := U_snoc (n - 1) l c (by omega)
    simp only [List.cons_append, U, List.length_cons]
    rw [ih, show n - 1 - l.length = n - (l.length + 1) by omega]
    omega
theorem U_append : ∀ (l m : List UInt8) (n : Nat), n = l.length + m.length → U n (l ++ m) = U n l + U m.length m
  | [], m, n, h => by simp only [List.length_nil, Nat.zero_add] at h; subst h; simp [U]
  | c :: l, m, n, h => by
    simp only [List.length_cons] at h
    have ih := U_append l m (n - 1) (by omega)
    simp only [List.cons_append, U]
    rw [ih]
    omega
theorem T_append (l m : List UInt8) : T (l ++ m) = T l + m.length * S l + T m := by
  unfold T
  rw [List.length_append, U_append l m _ rfl, U_add l l.length (Nat.le_refl _)]
theorem T_snoc (l : List UInt8) (c : UInt8) : T (l ++ [c]) = T l + S l + c.toNat := by
  rw [T_append]
  simp [T, U]
theorem S_le : ∀ l : List UInt8, S l ≤ 255 * l.length
  | [] => by simp [S]
  | c :: l => by
    have := S_le l
    have := c.toNat_lt
    simp only [S, List.length_cons]
    omega
/-- the parts of any number -/
def lo (x : Int) : Nat := (x % 65536).toNat % 65521
def hi (x : Int) : Nat := (x / 65536 % 65536).toNat % 65521
theorem lo_lt (x : Int) : lo x < 65521 := Nat.mod_lt _ (by omega)
theorem hi_lt (x : Int) : hi x < 65521 := Nat.mod_lt _ (by omega)
/-- both parts behind bytes -/
def pa (a : Nat) (l : List UInt8) : Nat := (a + S l) % 65521
def pb (a b : Nat) (l : List UInt8) : Nat := (b + l.length * a + T l) % 65521
def whole (a b : Nat) : Nat := b * 65536 + a
def more (x : Int) (l : List UInt8) : Nat := whole (pa (lo x) l) (pb (lo x) (hi x) l)
def join (x y n : Int) : Nat :=
  whole ((lo y + (lo x + 65520) % 65521) % 65521) ((hi x + hi y + (max n 0).toNat % 65521 * ((lo x + 65520) % 65521)) % 65521)
theorem whole_eq {a b c d : Nat} (h : a = c) (k : b = d) : whole a b = whole c d := by rw [h, k]
theorem pa_lt (a : Nat) (l : List UInt8) : pa a l < 65521 := Nat.mod_lt _ (by omega)
theorem pb_lt (a b : Nat) (l : List UInt8) : pb a b l < 65521 := Nat.mod_lt _ (by omega)
theorem lo_whole {a b : Nat} (ha : a < 65521) : lo (whole a b : Nat) = a := by unfold lo whole; omega
theorem hi_whole {a b : Nat} (ha : a < 65521) (hb : b < 65521) : hi (whole a b : Nat) = b := by unfold hi whole; omega
theorem lo_more (x : Int) (l : List UInt8) : lo (more x l : Nat) = pa (lo x) l := lo_whole (pa_lt _ _)
theorem hi_more (x : Int) (l : List UInt8) : hi (more x l : Nat) = pb (lo x) (hi x) l := hi_whole (pa_lt _ _) (pb_lt _ _ _)
theorem more_lt (x : Int) (l : List UInt8) : more x l < 4293984256 := by
  have h1 := pa_lt (lo x) l
  have h2 := pb_lt (lo x) (hi x) l
  unfold more whole
  omega
theorem pa_nil (a : Nat) (h : a < 65521) : pa a [] = a := by simp [pa, S]; omega
theorem pb_nil (a b : Nat) (h : b < 65521) : pb a b [] = b := by simp [pb, T, U]; omega
theorem pa_snoc (a : Nat) (l : List UInt8) (c : UInt8) : pa a (l ++ [c]) = (pa a l + c.toNat) % 65521 := by
  unfold pa
  rw [S_append]
  simp only [S]
  omega
theorem pb_snoc (a b : Nat) (l : List UInt8) (c : UInt8) : pb a b (l ++ [c]) = (pb a b l + pa a (l ++ [c])) % 65521 := by
  unfold pb pa
  rw [S_append, T_snoc]
  simp only [S, List.length_append, List.length_cons, List.length_nil, Nat.succ_mul, Nat.zero_add]
  omega
theorem more_more (x : Int) (l m : List UInt8) : more (more x l : Nat) m = more x (l ++ m) := by
  show whole (pa (lo (more x l : Nat)) m) (pb (lo (more x l : Nat)) (hi (more x l : Nat)) m) = whole _ _
  rw [lo_more, hi_more]
  refine whole_eq ?_ ?_
  · unfold pa
    rw [S_append]
    omega
  · unfold pb pa
    rw [T_append, List.length_append, Nat.add_mul]
    have e : (m.length * ((lo x + S l) % 65521)) % 65521 = (m.length * lo x + m.length * S l) % 65521 := by
      rw [Nat.mul_mod, Nat.mod_mod, ← Nat.mul_mod, Nat.mul_add]
    omega
theorem join_more (l m : List UInt8) (n : Int) (hn : n = m.length) : join (more 1 l : Nat) (more 1 m : Nat) n = more 1 (l ++ m) := by
  subst hn
  unfold join
  rw [lo_more, hi_more, lo_more, hi_more, show lo 1 = 1 by decide, show hi 1 = 0 by decide, show (max (m.length : Int) 0).toNat = m.length by omega]
  unfold more
  rw [show lo 1 = 1 by decide, show hi 1 = 0 by decide]
  have e0 : (pa 1 l + 65520) % 65521 = S l % 65521 := by unfold pa; omega
  rw [e0]
  refine whole_eq ?_ ?_
  · unfold pa
    rw [S_append]
    omega
  · have e : (m.length % 65521 * (S l % 65521)) % 65521 = (m.length * S l) % 65521 := (Nat.mul_mod _ _ _).symm
    unfold pb
    rw [T_append, List.length_append]
    generalize m.length % 65521 * (S l % 65521) = r at e ⊢
    generalize m.length * S l = q at e ⊢
    omega
theorem join_none {a b : Nat} (n : Int) (ha : a < 65521) (hb : b < 65521) (hn : n ≤ 0) : join (whole a b : Nat) 1 n = whole a b := by
  unfold join
  rw [lo_whole ha, hi_whole ha hb, show lo 1 = 1 by decide, show hi 1 = 0 by decide, show (max n 0).toNat = 0 by omega]
  refine whole_eq ?_ ?_
  · omega
  · simp; omega
/-- the document's way: n is known ahead, the parts are reduced at the end -/
theorem ref_b (a b n : Nat) (l : List UInt8) (h : n = l.length) : (b + n % 65521 * a + U n l) % 65521 = pb a b l := by
  subst h
  unfold pb T
  have e : (l.length % 65521 * a) % 65521 = (l.length * a) % 65521 := by rw [Nat.mul_mod, Nat.mod_mod, ← Nat.mul_mod]
  omega
end Go.Proofs.YtddiccdfeckgaaaDoor.A
/- Layer 3: the parts of a sum, a sum out of parts. -/
namespace Go.Proofs.YtddiccdfeckgaaaDoor.Ad
open Go.RowKit
set_option linter.unusedVariables false

theorem ret_int {k : IntKind} {a b : Int} (h : a = b) : Ending.returned (.int k a) = .returned (.int k b) := by rw [h]
theorem ret_bool {a b : Bool} (h : a = b) : Ending.returned (.bool a) = .returned (.bool b) := by rw [h]
theorem i64_id (x : Int) (h0 : -9223372036854775808 ≤ x) (h1 : x ≤ 9223372036854775807) : wrap64 x = x := by unfold wrap64; omega
theorem i64_wrap (x : Int) (h0 : -9223372036854775808 ≤ x) (h1 : x ≤ 9223372036854775807) : IntKind.i64.wrap x = x := by rw [IntKind.wrap_i64]; omega

/-- numbers as the walk's integers -/
def mdI (x : Int) : Int := x % 65521
def loI (x : Int) : Int := (A.lo x : Nat)
def hiI (x : Int) : Int := (A.hi x : Nat)
def whI (a b : Int) : Int := b * 65536 + a
theorem loI_bd (x : Int) : 0 ≤ loI x ∧ loI x < 65521 := by have := A.lo_lt x; unfold loI; omega
theorem hiI_bd (x : Int) : 0 ≤ hiI x ∧ hiI x < 65521 := by have := A.hi_lt x; unfold hiI; omega
theorem mdI_bd (x : Int) : 0 ≤ mdI x ∧ mdI x < 65521 := by unfold mdI; omega
theorem and16 (x : Int) : bits .and .i64 x 65535 = x % 65536 := by
  show IntKind.i64.wrap ((BitVec.ofInt 64 x &&& BitVec.ofInt 64 65535).toNat : Int) = _
  rw [BitVec.toNat_and, BitVec.toNat_ofInt, show (BitVec.ofInt 64 65535).toNat = 2 ^ 16 - 1 by rfl, Nat.and_two_pow_sub_one_eq_mod, IntKind.wrap_i64]
  omega
theorem or16 (a b : Int) (ha : 0 ≤ a) (ha2 : a < 65536) (hb : 0 ≤ b) (hb2 : b < 65536) : bits .or .i64 (b * 65536) a = b * 65536 + a := by
  obtain ⟨m, rfl⟩ := Int.eq_ofNat_of_zero_le ha
  obtain ⟨n, rfl⟩ := Int.eq_ofNat_of_zero_le hb
  show IntKind.i64.wrap ((BitVec.ofInt 64 ((n : Int) * 65536) ||| BitVec.ofInt 64 (m : Int)).toNat : Int) = _
  have e : 2 ^ 16 * n ||| m = 2 ^ 16 * n + m := (Nat.two_pow_add_eq_or_of_lt (by omega) n).symm
  have h1 : (BitVec.ofInt 64 ((n : Int) * 65536)).toNat = 2 ^ 16 * n := by rw [BitVec.toNat_ofInt]; omega
  have h2 : (BitVec.ofInt 64 (m : Int)).toNat = m := by rw [BitVec.toNat_ofInt]; omega
  rw [BitVec.toNat_or, h1, h2, e, IntKind.wrap_i64]
  omega
theorem below_any (x : Int) (w : World) (h0 : 0 ≤ x) (hn : x < 131042) :
    Calls Tryd.prog 72 #[.int .i64 x] w fun e w' => e = .returned (.int .i64 (mdI x)) ∧ w = w' := by
  go_enter Tryd.func72, Tryd.ntmps72
  go_wp2
  all_goals (go_ret; exact ⟨ret_int (by unfold mdI; omega), rfl⟩)
theorem whole_any (a b : Int) (w : World) (ha : 0 ≤ a) (ha2 : a < 65521) (hb : 0 ≤ b) (hb2 : b < 65521) :
    Calls Tryd.prog 73 #[.int .i64 a, .int .i64 b] w fun e w' => e = .returned (.int .i64 (whI a b)) ∧ w = w' := by
  go_enter Tryd.func73, Tryd.ntmps73
  go_wp2
  go_ret
  exact ⟨ret_int (or16 a b ha (by omega) hb (by omega)), rfl⟩
theorem parts_any (x : Int) (w : World) (h0 : -9223372036854775808 ≤ x) (h1 : x ≤ 9223372036854775807) :
    Calls Tryd.prog 71 #[.int .i64 x] w fun e w' => e = .returned (.tuple #[.int .i64 (loI x), .int .i64 (hiI x)]) ∧ w = w' := by
  have E1 := Lib.hid (and16 x)
  have E2 := Lib.hid (and16 (x / 65536))
  have M1 : Hid (mdI (x % 65536) = loI x) := Lib.hid (by unfold mdI loI A.lo; omega)
  have M2 : Hid (mdI (x / 65536 % 65536) = hiI x) := Lib.hid (by unfold mdI hiI A.hi; omega)
  go_enter Tryd.func71, Tryd.ntmps71
  go_wp2_with fail
  rw [E1.out]
  refine (below_any _ _ (by omega) (by omega)).mono ?_
  rintro e w' ⟨rfl, rfl⟩
  rw [M1.out]
  go_wp2_with fail
  rw [E2.out]
  refine (below_any _ _ (by omega) (by omega)).mono ?_
  rintro e w' ⟨rfl, rfl⟩
  rw [M2.out]
  go_wp2
  go_ret2
  exact ⟨rfl, rfl⟩
theorem low_any (x : Int) (w : World) (h0 : -9223372036854775808 ≤ x) (h1 : x ≤ 9223372036854775807) :
    Calls Tryd.prog 74 #[.int .i64 x] w fun e w' => e = .returned (.int .i64 (loI x)) ∧ w = w' := by
  go_enter Tryd.func74, Tryd.ntmps74
  go_wp2
  go_ret
  exact ⟨ret_int (by unfold loI A.lo; omega), rfl⟩
theorem high_any (x : Int) (w : World) (h0 : -9223372036854775808 ≤ x) (h1 : x ≤ 9223372036854775807) :
    Calls Tryd.prog 75 #[.int .i64 x] w fun e w' => e = .returned (.int .i64 (hiI x)) ∧ w = w' := by
  go_enter Tryd.func75, Tryd.ntmps75
  go_wp2
  go_ret
  exact ⟨ret_int (by unfold hiI A.hi; omega), rfl⟩
end Go.Proofs.YtddiccdfeckgaaaDoor.Ad
/- Layer 3: bytes behind a sum, both; a sum of bytes; two sums joined. -/
namespace Go.Proofs.YtddiccdfeckgaaaDoor.Ad
open Go.RowKit
set_option linter.unusedVariables false

theorem bytes_getElem (s : ByteArray) (k : Nat) (h : k < s.size) (h' : k < s.data.toList.length) : s[k] = s.data.toList[k] := by simp; rfl
theorem bytes_length (s : ByteArray) : s.data.toList.length = s.size := by simp
theorem take_snoc (s : ByteArray) (k : Nat) (h : k < s.size) : s.data.toList.take (k + 1) = s.data.toList.take k ++ [s[k]] := by
  rw [List.take_succ_eq_append_getElem (by simpa using h)]; rfl
def moI (x : Int) (s : ByteArray) : Int := (A.more x s.data.toList : Nat)
theorem moI_bd (x : Int) (s : ByteArray) : 0 ≤ moI x s ∧ moI x s < 4293984256 := by have := A.more_lt x s.data.toList; unfold moI; omega

theorem wh_nat (a b : Nat) : ((A.whole a b : Nat) : Int) = whI a b := by unfold A.whole whI; omega
def MoRel (x : Int) (s : ByteArray) (a b i : Value) : Prop :=
  ∃ (k : Nat) (p q : Int), k ≤ s.size ∧ i = .int .i64 k ∧ a = .int .i64 p ∧ b = .int .i64 q ∧ 0 ≤ p ∧ p < 65521 ∧ 0 ≤ q ∧ q < 65521 ∧
    Hid (p = (A.pa (A.lo x) (s.data.toList.take k) : Nat) ∧ q = (A.pb (A.lo x) (A.hi x) (s.data.toList.take k) : Nat))
theorem mo_next (x : Int) (s : ByteArray) (k : Nat) (p q c : Int) (hk : k < s.size) (hc : c = s[k].toNat) (h : p = (A.pa (A.lo x) (s.data.toList.take k) : Nat) ∧ q = (A.pb (A.lo x) (A.hi x) (s.data.toList.take k) : Nat)) :
    mdI (p + c) = (A.pa (A.lo x) (s.data.toList.take (k + 1)) : Nat) ∧ mdI (q + mdI (p + c)) = (A.pb (A.lo x) (A.hi x) (s.data.toList.take (k + 1)) : Nat) := by
  rw [take_snoc s k hk]
  have e1 := A.pa_snoc (A.lo x) (s.data.toList.take k) s[k]
  have e2 := A.pb_snoc (A.lo x) (A.hi x) (s.data.toList.take k) s[k]
  have e3 : mdI (p + c) = (A.pa (A.lo x) (s.data.toList.take k ++ [s[k]]) : Nat) := by
    rw [e1, h.1, hc]; unfold mdI; omega
  refine ⟨e3, ?_⟩
  rw [e3, e2, h.2]
  unfold mdI
  omega
set_option maxHeartbeats 400000 in
theorem more_any (x : Int) (s : ByteArray) (w : World) (h0 : -9223372036854775808 ≤ x) (h1 : x ≤ 9223372036854775807) (hs : s.size ≤ maxLen) :
    Calls Tryd.prog 50 #[.int .i64 x, .string s] w fun e w' => e = .returned (.int .i64 (moI x s)) ∧ w = w' := by
  unfold maxLen at hs
  have l1 := loI_bd x
  have l2 := hiI_bd x
  go_enter Tryd.func50, Tryd.ntmps50
  go_wp2_with fail
  refine (parts_any x _ h0 h1).mono ?_
  rintro e w' ⟨rfl, rfl⟩
  go_wp2_with fail
  go_loop [5, 6, 15] (fun a b i => MoRel x s a b i) (fun _ _ i => s.size - (intOf i).toNat)
  case atStart => exact ⟨0, loI x, hiI x, Nat.zero_le _, rfl, rfl, rfl, l1.1, l1.2, l2.1, l2.2, Lib.hid ⟨by rw [List.take_zero, A.pa_nil _ (A.lo_lt x)]; rfl, by rw [List.take_zero, A.pb_nil _ _ (A.hi_lt x)]; rfl⟩⟩
  case round =>
    obtain ⟨k, p, q, hk, rfl, rfl, rfl, p0, p1, q0, q1, HR⟩ := hrel
    by_cases hlt : k < s.size
    · have hc := s[k].toNat_lt
      have hw : wrap64 (s[k].toNat : Int) = (s[k].toNat : Int) := i64_id _ (by omega) (by omega)
      obtain ⟨c, hcc⟩ : ∃ c : Int, c = (s[k].toNat : Int) := ⟨_, rfl⟩
      rw [← hcc] at hw
      have HN := Lib.hid (mo_next x s k p q c hlt hcc HR.out)
      have c0 : 0 ≤ c := by omega
      have c1 : c < 256 := by omega
      have HC := Lib.hid hcc
      have HW := Lib.hid hw
      obtain ⟨m1, m2⟩ := mdI_bd (p + c)
      obtain ⟨m3, m4⟩ := mdI_bd (q + mdI (p + c))
      clear hcc hw hc
      go_wp2_with fail
      rw [← HC.out, HW.out, i64_id (p + c) (by omega) (by omega)]
      refine (below_any _ _ (by omega) (by omega)).mono ?_
      rintro e w' ⟨rfl, rfl⟩
      go_wp2_with fail
      refine (below_any _ _ (by omega) (by omega)).mono ?_
      rintro e w' ⟨rfl, rfl⟩
      go_wp2_with fail
      go_round
      case rel => exact ⟨k + 1, _, _, by omega, by go_num, rfl, rfl, m1, m2, m3, m4, HN⟩
      case measure => simp [intOf]; omega
    · obtain rfl : k = s.size := by omega
      go_wp2_with fail
      refine (whole_any _ _ _ p0 p1 q0 q1).mono ?_
      rintro e w' ⟨rfl, rfl⟩
      go_wp2
      go_ret
      refine ⟨ret_int ?_, rfl⟩
      have h := HR.out
      rw [List.take_of_length_le (by simp)] at h
      rw [h.1, h.2]
      exact (wh_nat _ _).symm
theorem sum_any (s : ByteArray) (w : World) (hs : s.size ≤ maxLen) :
    Calls Tryd.prog 26 #[.string s] w fun e w' => e = .returned (.int .i64 (moI 1 s)) ∧ w = w' := by
  go_enter Tryd.func26, Tryd.ntmps26
  go_wp2_with fail
  refine (more_any 1 s _ (by omega) (by omega) hs).mono ?_
  rintro e w' ⟨rfl, rfl⟩
  go_wp2
  go_ret
  exact ⟨rfl, rfl⟩

def RefRel (x : Int) (s : ByteArray) (a b i : Value) : Prop :=
  ∃ (k : Nat) (p q : Int), k ≤ s.size ∧ i = .int .i64 k ∧ a = .int .i64 p ∧ b = .int .i64 q ∧ 0 ≤ p ∧ p ≤ 65520 + 255 * k ∧ 0 ≤ q ∧ q < 4293000000 ∧
    Hid (p = (A.lo x + A.S (s.data.toList.take k) : Nat) ∧ q % 65521 = ((A.hi x + s.size % 65521 * A.lo x + A.U s.size (s.data.toList.take k)) % 65521 : Nat))
theorem ref_next (x : Int) (s : ByteArray) (k : Nat) (p q c : Int) (hk : k < s.size) (hc : c = s[k].toNat) (h : p = (A.lo x + A.S (s.data.toList.take k) : Nat) ∧ q % 65521 = ((A.hi x + s.size % 65521 * A.lo x + A.U s.size (s.data.toList.take k)) % 65521 : Nat)) :
    p + c = (A.lo x + A.S (s.data.toList.take (k + 1)) : Nat) ∧ mdI (q + c * ((s.size : Int) - (k : Int))) % 65521 = ((A.hi x + s.size % 65521 * A.lo x + A.U s.size (s.data.toList.take (k + 1))) % 65521 : Nat) := by
  have hl : (s.data.toList.take k).length = k := by rw [List.length_take, bytes_length]; omega
  rw [take_snoc s k hk, A.S_append, A.U_snoc _ _ _ (by omega), hl]
  constructor
  · rw [h.1, hc]; simp only [A.S]; omega
  · have e : c * ((s.size : Int) - (k : Int)) = ((s[k].toNat * (s.size - k) : Nat) : Int) := by
      rw [hc]; push_cast; rw [Int.ofNat_sub (by omega)]
    rw [e]
    have h2 := h.2
    generalize s[k].toNat * (s.size - k) = r
    generalize A.hi x + s.size % 65521 * A.lo x + A.U s.size (s.data.toList.take k) = t at h2 ⊢
    unfold mdI
    omega
end Go.Proofs.YtddiccdfeckgaaaDoor.Ad
/- Layer 3: the document's bytes behind a sum; two sums joined; the fixed answer. -/
namespace Go.Proofs.YtddiccdfeckgaaaDoor.Ad
open Go.RowKit
set_option linter.unusedVariables false

theorem mul_bd {a b A B : Int} (h0 : 0 ≤ a) (h1 : a ≤ A) (k0 : 0 ≤ b) (k1 : b ≤ B) : 0 ≤ a * b ∧ a * b ≤ A * B :=
  ⟨Int.mul_nonneg h0 k0, Int.mul_le_mul h1 k1 k0 (Int.le_trans h0 h1)⟩
theorem ref_start (b n a : Nat) : (b : Int) + (n : Int) % 65521 * (a : Int) = ((b + n % 65521 * a + 0 : Nat) : Int) := by
  have e : ((n % 65521 * a : Nat) : Int) = ((n % 65521 : Nat) : Int) * (a : Int) := Int.natCast_mul _ _
  have e2 : ((n % 65521 : Nat) : Int) = (n : Int) % 65521 := by omega
  rw [e2] at e
  rw [← e]
  omega
theorem ref_whole (x : Int) (s : ByteArray) (p q : Int) (h : p = (A.lo x + A.S s.data.toList : Nat) ∧ q % 65521 = ((A.hi x + s.size % 65521 * A.lo x + A.U s.size s.data.toList) % 65521 : Nat)) : q % 65521 * 65536 + p % 65521 = moI x s := by
  have e := A.ref_b (A.lo x) (A.hi x) s.size s.data.toList (bytes_length s).symm
  rw [e] at h
  rw [h.2, h.1]
  unfold moI A.more
  rw [wh_nat]
  unfold whI A.pa
  omega
set_option maxHeartbeats 400000 in
theorem refmore_any (x : Int) (s : ByteArray) (w : World) (h0 : -9223372036854775808 ≤ x) (h1 : x ≤ 9223372036854775807) (hs : s.size ≤ 1048576) :
    Calls Tryd.prog 51 #[.int .i64 x, .string s] w fun e w' => e = .returned (.int .i64 (moI x s)) ∧ w = w' := by
  obtain ⟨l1, l2⟩ := loI_bd x
  obtain ⟨l3, l4⟩ := hiI_bd x
  have m1 := mul_bd (a := (s.size : Int) % 65521) (b := loI x) (A := 65520) (B := 65520) (by omega) (by omega) l1 (by omega)
  have E0 : Hid (wrap64 (hiI x + wrap64 ((s.size : Int) % 65521 * loI x)) = hiI x + (s.size : Int) % 65521 * loI x) := by
    rw [i64_id ((s.size : Int) % 65521 * loI x) (by omega) (by omega), i64_id _ (by omega) (by omega)]
    exact Lib.hid rfl
  have E1 : 0 ≤ hiI x + (s.size : Int) % 65521 * loI x ∧ hiI x + (s.size : Int) % 65521 * loI x < 4293000000 := by omega
  have HE1 := Lib.hid E1
  have E2 : Hid ((hiI x + (s.size : Int) % 65521 * loI x) % 65521 = ((A.hi x + s.size % 65521 * A.lo x + A.U s.size []) % 65521 : Nat)) := by
    refine Lib.hid ?_
    have e : hiI x + (s.size : Int) % 65521 * loI x = ((A.hi x + s.size % 65521 * A.lo x + A.U s.size [] : Nat) : Int) := by
      exact ref_start _ _ _
    rw [e]
    omega
  clear m1 E1
  go_enter Tryd.func51, Tryd.ntmps51
  go_wp2_with fail
  refine (low_any x _ h0 h1).mono ?_
  rintro e w' ⟨rfl, rfl⟩
  go_wp2_with fail
  refine (high_any x _ h0 h1).mono ?_
  rintro e w' ⟨rfl, rfl⟩
  go_wp2_with fail
  go_loop [5, 6, 8] (fun a b i => RefRel x s a b i) (fun _ _ i => s.size - (intOf i).toNat)
  case atStart => exact ⟨0, loI x, _, Nat.zero_le _, rfl, rfl, by rw [E0.out], l1, by omega, HE1.out.1, HE1.out.2, Lib.hid ⟨by rw [List.take_zero]; rfl, by rw [List.take_zero]; exact E2.out⟩⟩
  case round =>
    clear E0 HE1 E2
    obtain ⟨k, p, q, hk, rfl, rfl, rfl, p0, p1, q0, q1, HR⟩ := hrel
    by_cases hlt : k < s.size
    · have hc := s[k].toNat_lt
      have hw : wrap64 (s[k].toNat : Int) = (s[k].toNat : Int) := i64_id _ (by omega) (by omega)
      obtain ⟨c, hcc⟩ : ∃ c : Int, c = (s[k].toNat : Int) := ⟨_, rfl⟩
      rw [← hcc] at hw
      have HN := Lib.hid (ref_next x s k p q c hlt hcc HR.out)
      have c0 : 0 ≤ c := by omega
      have c1 : c < 256 := by omega
      have mb := mul_bd (a := c) (b := (s.size : Int) - (k : Int)) (A := 255) (B := 1048576) (by omega) (by omega) (by omega) (by omega)
      have HC := Lib.hid hcc
      have HW := Lib.hid hw
      have HM : Hid (wrap64 (q + wrap64 (c * ((s.size : Int) - (k : Int)))) = q + c * ((s.size : Int) - (k : Int)) ∧ wrap64 (p + c) = p + c ∧ 0 ≤ q + c * ((s.size : Int) - (k : Int))) := by
        rw [i64_id (c * ((s.size : Int) - (k : Int))) (by omega) (by omega), i64_id _ (by omega) (by omega), i64_id _ (by omega) (by omega)]
        exact Lib.hid ⟨rfl, rfl, by omega⟩
      obtain ⟨m3, m4⟩ := mdI_bd (q + c * ((s.size : Int) - (k : Int)))
      clear hcc hw hc mb
      go_wp2_with fail
      rw [← HC.out, HW.out, HM.out.1, HM.out.2.1]
      go_round
      case rel => exact ⟨k + 1, _, mdI (q + c * ((s.size : Int) - (k : Int))), by omega, by go_num, rfl, by rw [Int.tmod_eq_emod_of_nonneg HM.out.2.2]; rfl, by omega, by omega, m3, by omega, HN⟩
      case measure => simp [intOf]; omega
    · obtain rfl : k = s.size := by omega
      go_wp2
      go_ret
      refine ⟨ret_int ?_, rfl⟩
      have h := HR.out
      rw [List.take_of_length_le (by simp)] at h
      exact ref_whole x s p q h
end Go.Proofs.YtddiccdfeckgaaaDoor.Ad
/- Layer 3: the document's sum of bytes (for the layers above: the names in a space of their own). -/
namespace Go.Proofs.YtddiccdfeckgaaaDoor.Ad
open Go.RowKit
set_option linter.unusedVariables false
theorem refsum_any (s : ByteArray) (w : World) (hs : s.size ≤ 1048576) :
    Calls Tryd.prog 27 #[.string s] w fun e w' => e = .returned (.int .i64 (moI 1 s)) ∧ w = w' := by
  go_enter Tryd.func27, Tryd.ntmps27
  go_wp2_with fail
  refine (refmore_any 1 s _ (by omega) (by omega) hs).mono ?_
  rintro e w' ⟨rfl, rfl⟩
  go_wp2
  go_ret
  exact ⟨rfl, rfl⟩
end Go.Proofs.YtddiccdfeckgaaaDoor.Ad
