import Derived.Test.YtgopaajmbifbaaaZK0
import Derived.Test.YtgopaajmbifbaaaProg
import Derived.WalkKit
import Derived.WalkSpells
import Derived.WalkLawsBesides
import Derived.Laws.BitsAllLaws
import Derived.Lib.Hide
import Derived.Deep.QuietTactic
import Derived.BigQuiet
import Derived.Outline
import Derived.StillTailTactics
import Derived.Deep.RegionHeld3
import Derived.Deep.DrawnRows
import Derived.Laws.IdiomStrings
import Derived.Laws.MakeOwn
import Derived.OwnWalk
import Derived.Deep.OwnRows
import Derived.Laws.AppendOwn
import Derived.KernelRfl
import Derived.Deep.DeepCutAuto
import Derived.Deep.CutBlock
import Derived.Lib.BitFns
namespace Go.Proofs.Ytgopaajmbifbaaa
structure Sg where
  ax : Int
  ay : Int
  bx : Int
  by1 : Int
  l : Int
  r : Int
def styB (n : Int) : Bool := decide (0 ≤ n) && decide (n ≤ 255)
def rgtS (s : Sg) : Bool := evP s.ax s.ay && evP s.bx s.by1 && styB s.l && styB s.r
def trnS (s : Sg) : Sg := ⟨s.bx, s.by1, s.ax, s.ay, s.r, s.l⟩
def dnS (s : Sg) : Sg := if s.by1 < s.ay then trnS s else s
def crsS (s : Sg) (y : Int) : Bool := decide (s.ay < y) && decide (y < s.by1)
def lftS (s : Sg) (x y : Int) : Bool := decide ((y - s.ay) * (s.bx - s.ax) ≤ (x - s.ax) * (s.by1 - s.ay))
def sd (s : Sg) (st : Int) : Int := (if s.l = st then 1 else 0) + (if s.r = st then -1 else 0)
def wndS (s : Sg) (st x y : Int) : Int := if crsS s y && lftS s x y then sd s st else 0
def wnd1 (s : Sg) (st x y : Int) : Int := if rgtS s then wndS (dnS s) st x y else 0
def wnd : List Sg → Int → Int → Int → Int
  | [], _, _, _ => 0
  | s :: L, st, x, y => wnd1 s st x y + wnd L st x y
def smpB (n : Int) : Bool := decide (-16777216 ≤ n) && decide (n ≤ 16777216) && decide (n % 2 ≠ 0)
def sideV (s : Sg) (x y : Int) : Int :=
  if crsS s y then (if lftS s x y then 1 else 0) else if crsS (trnS s) y && lftS (trnS s) x y then -1 else 0
theorem styB_bd {n : Int} (h : styB n = true) : 0 ≤ n ∧ n ≤ 255 := by simp [styB] at h; exact h
theorem rgtS_bd {s : Sg} (h : rgtS s = true) : (((-16777216 ≤ s.ax ∧ s.ax ≤ 16777216) ∧ s.ax % 2 = 0) ∧ ((-16777216 ≤ s.ay ∧ s.ay ≤ 16777216) ∧ s.ay % 2 = 0)) ∧
    (((-16777216 ≤ s.bx ∧ s.bx ≤ 16777216) ∧ s.bx % 2 = 0) ∧ ((-16777216 ≤ s.by1 ∧ s.by1 ≤ 16777216) ∧ s.by1 % 2 = 0)) ∧ (0 ≤ s.l ∧ s.l ≤ 255) ∧ (0 ≤ s.r ∧ s.r ≤ 255) := by
  unfold rgtS at h
  simp only [Bool.and_eq_true] at h
  obtain ⟨⟨⟨h1, h2⟩, h3⟩, h4⟩ := h
  exact ⟨evP_bd h1, evP_bd h2, styB_bd h3, styB_bd h4⟩
theorem rgtS_trn (s : Sg) : rgtS (trnS s) = rgtS s := by
  unfold rgtS trnS
  simp only
  cases evP s.ax s.ay <;> cases evP s.bx s.by1 <;> cases styB s.l <;> cases styB s.r <;> rfl
theorem rgtS_dn (s : Sg) : rgtS (dnS s) = rgtS s := by unfold dnS; split; exact rgtS_trn s; rfl
theorem smpB_bd {n : Int} (h : smpB n = true) : -16777216 ≤ n ∧ n ≤ 16777216 ∧ n % 2 ≠ 0 := by
  simp [smpB] at h; omega
theorem smpB_of {n : Int} (h0 : -16777216 ≤ n) (h1 : n ≤ 16777216) (h2 : n % 2 ≠ 0) : smpB n = true := by
  simp [smpB]; omega
theorem sd_trn (s : Sg) (st : Int) : sd (trnS s) st = -sd s st := by
  unfold sd trnS
  simp only
  split <;> split <;> rfl
theorem sd_bd (s : Sg) (st : Int) : -1 ≤ sd s st ∧ sd s st ≤ 1 := by unfold sd; split <;> split <;> decide
theorem crs_flat {s : Sg} {y : Int} (h : s.by1 ≤ s.ay) : crsS s y = false := by
  simp only [crsS, Bool.and_eq_false_iff, decide_eq_false_iff_not]; omega
theorem wnd_side (s : Sg) (st x y : Int) : wndS (dnS s) st x y = sideV s x y * sd s st := by
  unfold dnS sideV
  split
  · rename_i h
    rw [crs_flat (s := s) (by omega)]
    unfold wndS
    simp only [Bool.false_eq_true, if_false]
    split
    · rw [sd_trn]; omega
    · omega
  · rename_i h
    rw [crs_flat (s := trnS s) (by simp only [trnS]; omega)]
    unfold wndS
    cases crsS s y <;> cases lftS s x y <;> simp
theorem wndS_bd (s : Sg) (st x y : Int) : -1 ≤ wndS s st x y ∧ wndS s st x y ≤ 1 := by
  unfold wndS; split
  · exact sd_bd s st
  · decide
theorem wnd1_bd (s : Sg) (st x y : Int) : -1 ≤ wnd1 s st x y ∧ wnd1 s st x y ≤ 1 := by
  unfold wnd1; split
  · exact wndS_bd _ st x y
  · decide
theorem wnd_bd (st x y : Int) : ∀ L : List Sg, -(L.length : Int) ≤ wnd L st x y ∧ wnd L st x y ≤ (L.length : Int)
  | [] => by simp [wnd]
  | s :: L => by
    have h1 := wnd_bd st x y L
    have h2 := wnd1_bd s st x y
    simp only [wnd, List.length_cons]
    omega
theorem wnd_append (st x y : Int) : ∀ L M : List Sg, wnd (L ++ M) st x y = wnd L st x y + wnd M st x y
  | [], M => by simp [wnd]
  | s :: L, M => by simp only [List.cons_append, wnd]; rw [wnd_append st x y L M]; omega
theorem wnd_take (L : List Sg) (st x y : Int) (k : Nat) (h : k < L.length) : wnd (L.take (k + 1)) st x y = wnd (L.take k) st x y + wnd1 L[k] st x y := by
  rw [List.take_succ_eq_append_getElem h, wnd_append]
  simp [wnd]
theorem wnd_take_bd (L : List Sg) (st x y : Int) (k : Nat) (h : k ≤ L.length) : -(k : Int) ≤ wnd (L.take k) st x y ∧ wnd (L.take k) st x y ≤ (k : Int) := by
  have := wnd_bd st x y (L.take k)
  rw [List.length_take, Nat.min_eq_left h] at this
  exact this
def topN (f : Nat → Int) : Nat → Nat
  | 0 => 0
  | n + 1 => if 0 < f n then n else topN f n
theorem topN_is (f : Nat → Int) (m : Nat) : ∀ n, m < n → (m = 0 ∨ 0 < f m) → (∀ s, m < s → s < n → ¬ 0 < f s) → topN f n = m
  | 0, h, _, _ => absurd h (by omega)
  | n + 1, h, h1, h2 => by
    unfold topN
    rcases Nat.lt_or_ge m n with hm | hm
    · rw [if_neg (h2 n hm (by omega))]
      exact topN_is f m n hm h1 fun s a b => h2 s a (by omega)
    · obtain rfl : m = n := by omega
      split
      · rfl
      · rename_i h3
        have : m = 0 := h1.resolve_right h3
        subst this
        rfl
theorem topN_lt (f : Nat → Int) : ∀ n, topN f n ≤ n
  | 0 => Nat.le_refl _
  | n + 1 => by unfold topN; split; omega; have := topN_lt f n; omega
def ownV (L : List Sg) (x y : Int) : Nat := topN (fun st => wnd L (st : Int) x y) 256
theorem topN_congr (f g : Nat → Int) : ∀ n, (∀ s, s < n → f s = g s) → topN f n = topN g n
  | 0, _ => rfl
  | n + 1, h => by
    unfold topN
    rw [h n (by omega), topN_congr f g n fun s hs => h s (by omega)]
theorem ownV_le (L : List Sg) (x y : Int) : ownV L x y ≤ 255 := by
  unfold ownV topN
  split
  · omega
  · exact topN_lt _ _
def colS (s : Sg) (y : Int) : Int := max 0 (-((7 - s.ax) * (s.by1 - s.ay) - (y - s.ay) * (s.bx - s.ax)).fdiv (16 * (s.by1 - s.ay)))
def cl (D : List Sg) (y : Int) (n : Nat) : Int := match D[n]? with | some s => if crsS s y then colS s y else -1 | none => -1
theorem crs_bd {s : Sg} {y : Int} (h : crsS s y = true) : s.ay < y ∧ y < s.by1 := by simpa [crsS] using h
theorem col_le {s : Sg} {y i : Int} (h : crsS s y = true) (hi : 0 ≤ i) : colS s y ≤ i ↔ lftS s (16 * i + 7) y = true := by
  obtain ⟨h1, h2⟩ := crs_bd h
  unfold colS lftS
  rw [decide_eq_true_eq]
  have hd : 0 < 16 * (s.by1 - s.ay) := by omega
  have e1 : ((7 - s.ax) * (s.by1 - s.ay) - (y - s.ay) * (s.bx - s.ax)).fdiv (16 * (s.by1 - s.ay)) = ((7 - s.ax) * (s.by1 - s.ay) - (y - s.ay) * (s.bx - s.ax)) / (16 * (s.by1 - s.ay)) := Int.fdiv_eq_ediv_of_nonneg _ (by omega)
  rw [e1]
  have h3 := Int.le_ediv_iff_mul_le (a := -i) (b := (7 - s.ax) * (s.by1 - s.ay) - (y - s.ay) * (s.bx - s.ax)) hd
  generalize ((7 - s.ax) * (s.by1 - s.ay) - (y - s.ay) * (s.bx - s.ax)) / (16 * (s.by1 - s.ay)) = q at *
  have e2 : (16 * i + 7 - s.ax) * (s.by1 - s.ay) = (7 - s.ax) * (s.by1 - s.ay) - -i * (16 * (s.by1 - s.ay)) := by grind
  rw [e2]
  generalize -i * (16 * (s.by1 - s.ay)) = z at *
  generalize (7 - s.ax) * (s.by1 - s.ay) = u at *
  generalize (y - s.ay) * (s.bx - s.ax) = v at *
  omega
theorem col_pos (s : Sg) (y : Int) : 0 ≤ colS s y := by unfold colS; omega
def hd (c : Nat → Int) (i : Int) : Nat → Int
  | 0 => -1
  | k + 1 => if c k = i then (k : Int) else hd c i k
theorem hd_cases (c : Nat → Int) (i : Int) : ∀ k, (hd c i k = -1 ∧ ∀ n, n < k → c n ≠ i) ∨ (∃ m : Nat, m < k ∧ hd c i k = (m : Int) ∧ c m = i ∧ ∀ n, m < n → n < k → c n ≠ i)
  | 0 => Or.inl ⟨rfl, fun n hn => absurd hn (by omega)⟩
  | k + 1 => by
    unfold hd
    by_cases h : c k = i
    · rw [if_pos h]
      exact Or.inr ⟨k, by omega, rfl, h, fun n h1 h2 => absurd h2 (by omega)⟩
    · rw [if_neg h]
      rcases hd_cases c i k with ⟨h1, h2⟩ | ⟨m, h1, h2, h3, h4⟩
      · exact Or.inl ⟨h1, fun n hn => by
          rcases Nat.lt_or_ge n k with h5 | h5
          · exact h2 n h5
          · rw [show n = k by omega]; exact h⟩
      · exact Or.inr ⟨m, by omega, h2, h3, fun n h5 h6 => by
          rcases Nat.lt_or_ge n k with h7 | h7
          · exact h4 n h5 h7
          · rw [show n = k by omega]; exact h⟩
theorem hd_bd (c : Nat → Int) (i : Int) (k : Nat) : -1 ≤ hd c i k ∧ hd c i k < (k : Int) := by
  rcases hd_cases c i k with ⟨h1, _⟩ | ⟨m, h1, h2, _⟩ <;> omega
def sdn (D : List Sg) (n : Nat) (st : Int) : Int := match D[n]? with | some s => sd s st | none => 0
theorem sdn_bd (D : List Sg) (n : Nat) (st : Int) : -1 ≤ sdn D n st ∧ sdn D n st ≤ 1 := by
  unfold sdn; split
  · exact sd_bd _ _
  · decide
def tl (D : List Sg) (c : Nat → Int) (i : Int) (k : Nat) : Nat → Int → Int
  | 0, _ => 0
  | n + 1, st => tl D c i k n st + (if 0 ≤ c n ∧ (c n < i ∨ (c n = i ∧ k ≤ n)) then sdn D n st else 0)
theorem tl_bd (D : List Sg) (c : Nat → Int) (i : Int) (k : Nat) (st : Int) : ∀ n : Nat, -(n : Int) ≤ tl D c i k n st ∧ tl D c i k n st ≤ (n : Int)
  | 0 => by simp [tl]
  | n + 1 => by
    have h := tl_bd D c i k st n
    have h2 := sdn_bd D n st
    unfold tl
    split <;> omega
theorem tl_zero (D : List Sg) (c : Nat → Int) (N : Nat) (st : Int) : ∀ n, n ≤ N → tl D c 0 N n st = 0
  | 0, _ => rfl
  | n + 1, h => by
    unfold tl
    rw [tl_zero D c N st n (by omega), if_neg (by omega)]
    rfl
theorem tl_step (D : List Sg) (c : Nat → Int) (i : Int) (m k : Nat) (st : Int) (hi : 0 ≤ i) (hm : m < k) (hc : c m = i) (hn : ∀ n, m < n → n < k → c n ≠ i) : ∀ n, tl D c i m n st = tl D c i k n st + (if m < n then sdn D m st else 0)
  | 0 => by simp [tl]
  | n + 1 => by
    unfold tl
    rw [tl_step D c i m k st hi hm hc hn n]
    rcases Nat.lt_trichotomy m n with h | h | h
    · rw [if_pos h, if_pos (show m < n + 1 by omega)]
      rcases Nat.lt_or_ge n k with h2 | h2
      · have h3 := hn n h h2
        by_cases h4 : 0 ≤ c n ∧ c n < i
        · rw [if_pos (by omega), if_pos (by omega)]; omega
        · rw [if_neg (by omega), if_neg (by omega)]; omega
      · by_cases h4 : 0 ≤ c n ∧ (c n < i ∨ c n = i)
        · rw [if_pos (by omega), if_pos (by omega)]; omega
        · rw [if_neg (by omega), if_neg (by omega)]; omega
    · subst h
      rw [if_neg (show ¬ m < m by omega), if_pos (by omega), if_neg (by omega), if_pos (by omega)]
    · rw [if_neg (show ¬ m < n by omega), if_neg (show ¬ m < n + 1 by omega)]
      by_cases h4 : 0 ≤ c n ∧ c n < i
      · rw [if_pos (by omega), if_pos (by omega)]; omega
      · rw [if_neg (by omega), if_neg (by omega)]
theorem tl_done (D : List Sg) (c : Nat → Int) (i : Int) (k N : Nat) (st : Int) (hn : ∀ n, n < k → c n ≠ i) : ∀ n, n ≤ N → tl D c i k n st = tl D c (i + 1) N n st
  | 0, _ => rfl
  | n + 1, h => by
    unfold tl
    rw [tl_done D c i k N st hn n (by omega)]
    by_cases h4 : 0 ≤ c n ∧ (c n < i ∨ (c n = i ∧ k ≤ n))
    · rw [if_pos h4, if_pos (by omega)]
    · rw [if_neg h4, if_neg (by
        intro h5
        have h6 : c n = i := by omega
        exact hn n (by omega) h6)]
def wndD : List Sg → Int → Int → Int → Int
  | [], _, _, _ => 0
  | s :: L, st, x, y => wndS s st x y + wndD L st x y
theorem wndD_append (st x y : Int) : ∀ L M : List Sg, wndD (L ++ M) st x y = wndD L st x y + wndD M st x y
  | [], M => by simp [wndD]
  | s :: L, M => by simp only [List.cons_append, wndD]; rw [wndD_append st x y L M]; omega
theorem wnd_down (st x y : Int) : ∀ L : List Sg, (∀ s ∈ L, rgtS s = true) → wndD (L.map dnS) st x y = wnd L st x y
  | [], _ => rfl
  | s :: L, h => by
    simp only [List.map_cons, wndD, wnd, wnd1]
    rw [h s (by simp), wnd_down st x y L fun t ht => h t (by simp [ht])]
    rfl
theorem tl_wnd (D : List Sg) (y i : Int) (N : Nat) (st : Int) (hi : 0 ≤ i) (hN : D.length ≤ N) : ∀ n, n ≤ D.length → tl D (cl D y) (i + 1) N n st = wndD (D.take n) st (16 * i + 7) y
  | 0, _ => by simp [tl, wndD]
  | n + 1, h => by
    rw [List.take_succ_eq_append_getElem (show n < D.length by omega), wndD_append]
    unfold tl
    rw [tl_wnd D y i N st hi hN n (by omega)]
    congr 1
    simp only [wndD, Int.add_zero]
    have e1 : D[n]? = some D[n] := List.getElem?_eq_getElem (by omega)
    have e2 : sdn D n st = sd D[n] st := by unfold sdn; rw [e1]
    have e3 : cl D y n = if crsS D[n] y then colS D[n] y else -1 := by unfold cl; rw [e1]
    rw [e2, e3]
    unfold wndS
    cases hc : crsS D[n] y with
    | false => simp
    | true =>
      have h1 := col_le (i := i) hc hi
      have h2 := col_pos D[n] y
      simp only [if_true, Bool.true_and]
      cases hl : lftS D[n] (16 * i + 7) y with
      | true =>
        have := h1.2 hl
        rw [if_pos (by omega), if_pos rfl]
      | false =>
        have : ¬ colS D[n] y ≤ i := fun h3 => by rw [h1.1 h3] at hl; cases hl
        rw [if_neg (by omega), if_neg (by simp)]
theorem tl_full (L : List Sg) (hr : ∀ s ∈ L, rgtS s = true) (y i : Int) (hi : 0 ≤ i) (st : Int) : tl (L.map dnS) (cl (L.map dnS) y) (i + 1) L.length L.length st = wnd L st (16 * i + 7) y := by
  have h := tl_wnd (L.map dnS) y i L.length st hi (by simp) L.length (by simp)
  rw [h, List.take_of_length_le (by simp), wnd_down st _ y L hr]
end Go.Proofs.Ytgopaajmbifbaaa
namespace Go.Proofs.Ytgopaajmbifbaaa.B
def P2 (n : Nat) : Nat := 2 ^ n
theorem P2_zero : P2 0 = 1 := rfl
theorem P2_pos (n : Nat) : 0 < P2 n := Nat.two_pow_pos n
theorem P2_add (a b : Nat) : P2 (a + b) = P2 a * P2 b := Nat.pow_add 2 a b
theorem P2_8 : P2 8 = 256 := rfl
theorem P2_byte (k : Nat) : P2 (8 * (k + 1)) = 256 * P2 (8 * k) := by rw [show 8 * (k + 1) = 8 + 8 * k by omega, P2_add, P2_8]
theorem div_lt {x a b : Nat} (h : x < P2 (a + b)) : x / P2 a < P2 b := by
  rw [Nat.div_lt_iff_lt_mul (P2_pos a), Nat.mul_comm, ← P2_add]; exact h
def bv (l : List UInt8) : Nat := l.foldl (fun a b => 256 * a + b.toNat) 0
theorem bv_nil : bv [] = 0 := rfl
theorem bv_snoc (l : List UInt8) (b : UInt8) : bv (l ++ [b]) = 256 * bv l + b.toNat := by simp [bv]
theorem snoc_induct {p : List UInt8 → Prop} (h0 : p []) (h1 : ∀ l b, p l → p (l ++ [b])) (l : List UInt8) : p l := by
  have H : ∀ n (l : List UInt8), l.length = n → p l := by
    intro n
    induction n with
    | zero => intro l h; rw [List.length_eq_zero_iff.1 h]; exact h0
    | succ n ih =>
      intro l h
      have hne : l ≠ [] := by intro e; rw [e] at h; simp at h
      rw [← List.dropLast_concat_getLast hne]
      exact h1 _ _ (ih _ (by simp [h]))
  exact H _ l rfl
theorem bv_lt (l : List UInt8) : bv l < P2 (8 * l.length) := by
  induction l using snoc_induct with
  | h0 => simp [bv_nil, P2_zero]
  | h1 l c ih =>
    rw [bv_snoc, List.length_append, List.length_singleton, P2_byte]
    have := c.toNat_lt
    omega
def enc : Nat → Nat → List UInt8
  | 0, _ => []
  | m + 1, x => enc m (x / 256) ++ [UInt8.ofNat (x % 256)]
theorem enc_len (m x : Nat) : (enc m x).length = m := by
  induction m generalizing x with
  | zero => rfl
  | succ m ih => simp [enc, ih]
theorem ofNat_toNat (x : Nat) (h : x < 256) : (UInt8.ofNat x).toNat = x := by simp; omega
theorem bv_enc (m x : Nat) (h : x < P2 (8 * m)) : bv (enc m x) = x := by
  induction m generalizing x with
  | zero => rw [Nat.mul_zero, P2_zero] at h; simp [enc, bv_nil]; omega
  | succ m ih =>
    rw [P2_byte] at h
    rw [enc, bv_snoc, ih _ (by omega), ofNat_toNat _ (Nat.mod_lt _ (by omega))]
    omega
def fld (l : List UInt8) (p n : Nat) : Nat := bv l / P2 (8 * l.length - (p + n)) % P2 n
def lv : List UInt8 → Nat
  | [] => 0
  | b :: l => b.toNat + 256 * lv l
end Go.Proofs.Ytgopaajmbifbaaa.B
namespace Go.Proofs.Ytgopaajmbifbaaa
open Go.RowKit
set_option linter.unusedVariables false
theorem ret_bool {a b : Bool} (h : a = b) : Ending.returned (.bool a) = .returned (.bool b) := by rw [h]
def NumRel (s : ByteArray) (a b : Nat) (p i : Value) : Prop := ∃ k x : Nat, a / 8 ≤ k ∧ (k ≤ (b + 7) / 8) ∧ i = .int .i64 k ∧ p = .int .i64 (x : Int) ∧ x = B.bv ((s.data.toList.take k).drop (a / 8))
end Go.Proofs.Ytgopaajmbifbaaa
namespace Go.Proofs.Ytgopaajmbifbaaa
open Go.RowKit
def Box (w : World) (b : Nat) (x y : Value) : Prop :=
  w.cell? ⟨b, 0, none⟩ = some x ∧ w.cell? ⟨b, 1, none⟩ = some y ∧ w.frozen? ⟨b, 0, none⟩ = false ∧ w.frozen? ⟨b, 1, none⟩ = false ∧ b < w.heap.size
section
variable {w w' : World} {b : Nat} {x y : Value}
end
end Go.Proofs.Ytgopaajmbifbaaa
namespace Go.Proofs.Ytgopaajmbifbaaa
open Go.RowKit
set_option linter.unusedVariables false
def errR (e : Int) : Value := .tuple #[.int .i64 0, .agg #[.string ⟨#[]⟩, .int .i64 0], .int .i64 e]
def plE (m : Nat) (a n : Int) : Int := if 0 ≤ a ∧ a ≤ 8 * m ∧ 0 ≤ n ∧ n ≤ 31 then (if 8 * m - a < n then 2 else 0) else 1
def plV (s : ByteArray) (a n : Int) : Int := if plE s.size a n = 0 then (B.fld s.data.toList a.toNat n.toNat : Int) else 0
def plS (s : ByteArray) (a n : Int) : ByteArray := if plE s.size a n = 0 then s else ⟨#[]⟩
def plA (s : ByteArray) (a n : Int) : Int := if plE s.size a n = 0 then a + n else 0
def plR (s : ByteArray) (a n : Int) : Value := .tuple #[.int .i64 (plV s a n), .agg #[.string (plS s a n), .int .i64 (plA s a n)], .int .i64 (plE s.size a n)]
attribute [local go_sem ↓] Go.wp_at_zero Go.wp_at_succ
end Go.Proofs.Ytgopaajmbifbaaa
namespace Go.Proofs.Ytgopaajmbifbaaa.B
set_option linter.unusedVariables false
def putN (m f n : Nat) : Nat := (8 * m - f + n + 7) / 8
def putF (m f n : Nat) : Nat := 8 * putN m f n - (8 * m - f + n)
def putX (l : List UInt8) (f v n : Nat) : Nat := (bv l / P2 f * P2 n + v) * P2 (putF l.length f n)
def putL (l : List UInt8) (f v n : Nat) : List UInt8 := enc (putN l.length f n) (putX l f v n)
def Snd (l : List UInt8) (f : Nat) : Prop := f ≤ 7 ∧ f ≤ 8 * l.length ∧ bv l % P2 f = 0
theorem putN_eq (m f n : Nat) : 8 * putN m f n = (8 * m - f + n) + putF m f n := by unfold putF putN; omega
theorem head_lt (l : List UInt8) (f : Nat) (h : f ≤ 8 * l.length) : bv l / P2 f < P2 (8 * l.length - f) := by
  apply div_lt
  rw [show f + (8 * l.length - f) = 8 * l.length by omega]
  exact bv_lt l
theorem join_lt {x y a n : Nat} (hx : x < P2 a) (hy : y < P2 n) : x * P2 n + y < P2 (a + n) := by
  rw [P2_add]
  have h : (x + 1) * P2 n ≤ P2 a * P2 n := Nat.mul_le_mul_right _ hx
  rw [Nat.add_mul] at h
  omega
theorem shift_lt {x a g : Nat} (hx : x < P2 a) : x * P2 g < P2 (a + g) := by
  have := join_lt (n := g) hx (P2_pos g)
  omega
theorem putX_lt (l : List UInt8) (f v n : Nat) (hf : f ≤ 8 * l.length) (hv : v < P2 n) : putX l f v n < P2 (8 * putN l.length f n) := by
  rw [putN_eq]
  exact shift_lt (join_lt (head_lt l f hf) hv)
theorem putL_len (l : List UInt8) (f v n : Nat) : (putL l f v n).length = putN l.length f n := enc_len _ _
theorem putL_bv (l : List UInt8) (f v n : Nat) (hf : f ≤ 8 * l.length) (hv : v < P2 n) : bv (putL l f v n) = putX l f v n := bv_enc _ _ (putX_lt l f v n hf hv)
theorem putL_head (l : List UInt8) (f v n : Nat) (hf : f ≤ 8 * l.length) (hv : v < P2 n) : bv (putL l f v n) / P2 (putF l.length f n) = bv l / P2 f * P2 n + v := by
  rw [putL_bv l f v n hf hv, putX, Nat.mul_div_cancel _ (P2_pos _)]
theorem putF_comp (m f k n : Nat) (hf : f ≤ 8 * m) : putF (putN m f k) (putF m f k) n = putF m f (k + n) := by unfold putF putN; omega
theorem putN_comp (m f k n : Nat) (hf : f ≤ 8 * m) : putN (putN m f k) (putF m f k) n = putN m f (k + n) := by unfold putF putN; omega
theorem putL_comp (l : List UInt8) (f u k v n : Nat) (hf : f ≤ 8 * l.length) (hu : u < P2 k) (hv : v < P2 n) :
    putL (putL l f u k) (putF l.length f k) v n = putL l f (u * P2 n + v) (k + n) := by
  have h := putL_head l f u k hf hu
  unfold putL putX at h ⊢
  rw [enc_len, h, putN_comp _ _ _ _ hf, putF_comp _ _ _ _ hf]
  congr 2
  rw [P2_add, Nat.add_mul, Nat.mul_assoc, Nat.add_assoc]
def le : Nat → Nat → List UInt8
  | 0, _ => []
  | n + 1, v => UInt8.ofNat (v % 256) :: le n (v / 256)
end Go.Proofs.Ytgopaajmbifbaaa.B
namespace Go.Proofs.Ytgopaajmbifbaaa
open Go.RowKit
set_option linter.unusedVariables false
def bs (l : List UInt8) : ByteArray := ⟨l.toArray⟩
def BRow (w : World) (g : Nat) (l : List UInt8) : Prop :=
  g < w.heap.size ∧ ∀ i (h : i < l.length), w.cell? ⟨g, i, none⟩ = some (.int .u8 (l[i].toNat : Int)) ∧ w.frozen? ⟨g, i, none⟩ = false
section
variable {w w' : World} {g : Nat} {l : List UInt8}
end
def sndB (s : ByteArray) (f : Int) : Bool := decide (f = 0) || (decide (0 < f) && decide (f ≤ 7) && decide (0 < s.size) && decide (B.bv s.data.toList % B.P2 f.toNat = 0))
end Go.Proofs.Ytgopaajmbifbaaa
namespace Go.Proofs.Ytgopaajmbifbaaa
open Go.RowKit
set_option linter.unusedVariables false
def PutRel (w1 : World) (g b t V : Nat) (i : Value) (wr : World) : Prop :=
  ∃ k : Nat, k ≤ t ∧ i = .int .i64 k ∧ BRow wr g ((B.enc t V).take k ++ List.replicate (t - k) 0) ∧ Box wr b (.string ⟨#[]⟩) (.int .i64 0) ∧ Below w1.heap.size w1 wr
end Go.Proofs.Ytgopaajmbifbaaa
namespace Go.Proofs.Ytgopaajmbifbaaa
open Go.RowKit
set_option linter.unusedVariables false
def mag (v : Int) : Nat := if v < 0 then (-v - 1).toNat else v.toNat
def wd (v : Int) : Nat := if v = 0 then 0 else Lib.bitLen (mag v) + 1
def pw (v : Int) : Nat := Lib.bitLen v.toNat
def WdRel (v : Int) (n : Value) : Prop := ∃ k : Nat, k ≤ wd v ∧ n = .int .i64 k
end Go.Proofs.Ytgopaajmbifbaaa
namespace Go.Proofs.Ytgopaajmbifbaaa
open Go.RowKit
set_option linter.unusedVariables false
def nf (s : ByteArray) (f : Int) : Nat := if 0 < f ∧ f ≤ 7 ∧ 0 < s.size ∧ B.bv s.data.toList % B.P2 f.toNat = 0 then f.toNat else 0
def errW : Value := .tuple #[.agg #[.string ⟨#[]⟩, .int .i64 0], .int .i64 1]
def ppR (s : ByteArray) (f : Int) (v n : Nat) : Value := .tuple #[.agg #[.string (bs (B.putL s.data.toList (nf s f) v n)), .int .i64 (B.putF s.size (nf s f) n : Int)], .int .i64 0]
def ppOk (v n : Int) : Bool := decide (0 ≤ n) && decide (n ≤ 31) && decide (0 ≤ v) && decide (v.toNat < B.P2 n.toNat)
def sgU (v : Int) (n : Nat) : Nat := if v < 0 then (v + B.P2 n).toNat else v.toNat
def psOk (v n : Int) : Bool := decide (0 ≤ n) && decide (n ≤ 31) && decide ((wd v : Int) ≤ n)
end Go.Proofs.Ytgopaajmbifbaaa
namespace Go.Proofs.Ytgopaajmbifbaaa
open Go.RowKit
set_option linter.unusedVariables false
def RPRel (s : ByteArray) (a n : Nat) (v i : Value) : Prop := ∃ k x : Nat, k ≤ n ∧ i = .int .i64 k ∧ v = .int .i64 (x : Int) ∧ x = B.fld s.data.toList a k
attribute [local go_sem ↓] Go.wp_at_zero Go.wp_at_succ
end Go.Proofs.Ytgopaajmbifbaaa
namespace Go.Proofs.Ytgopaajmbifbaaa
open Go.RowKit
set_option linter.unusedVariables false
def sgV (s : ByteArray) (a n : Int) : Int := if 0 < n ∧ B.P2 n.toNat ≤ 2 * (plV s a n).toNat then plV s a n - B.P2 n.toNat else plV s a n
def sgR (s : ByteArray) (a n : Int) : Value := .tuple #[.int .i64 (sgV s a n), .agg #[.string (plS s a n), .int .i64 (plA s a n)], .int .i64 (plE s.size a n)]
end Go.Proofs.Ytgopaajmbifbaaa
namespace Go.Proofs.Ytgopaajmbifbaaa
open Go.RowKit
set_option linter.unusedVariables false
def alA (m : Nat) (a : Int) : Int := if 0 ≤ a ∧ a ≤ 8 * m then (a + 7) / 8 * 8 else a
def cellInt (w : World) (g o : Nat) : Int := match w.cell? ⟨g, o, none⟩ with | some (.int _ n) => n | _ => 0
def alM (w : World) (g : Nat) : Nat := ((8 - cellInt w g 1 % 8) % 8).toNat
def AlRel (s : ByteArray) (a : Int) (w wr : World) : Prop :=
  ∃ x : Int, Box wr w.heap.size (.string s) (.int .i64 x) ∧ Box wr (w.heap.size + 1) (.string ⟨#[]⟩) (.int .i64 0) ∧ Below w.heap.size w wr ∧ alA s.size x = alA s.size a
end Go.Proofs.Ytgopaajmbifbaaa
namespace Go.Proofs.Ytgopaajmbifbaaa
open Go.RowKit
set_option linter.unusedVariables false
def errB (e : Int) : Value := .tuple #[.string ⟨#[]⟩, .agg #[.string ⟨#[]⟩, .int .i64 0], .int .i64 e]
def byE (m : Nat) (a n : Int) : Int := if 0 ≤ a ∧ a ≤ 8 * m ∧ 0 ≤ n then (if (m : Int) - (a + 7) / 8 < n then 2 else 0) else 1
def byB (s : ByteArray) (a n : Int) : ByteArray := if byE s.size a n = 0 then s.extract ((a + 7) / 8).toNat (((a + 7) / 8).toNat + n.toNat) else ⟨#[]⟩
def byS (s : ByteArray) (a n : Int) : ByteArray := if byE s.size a n = 0 then s else ⟨#[]⟩
def byA (s : ByteArray) (a n : Int) : Int := if byE s.size a n = 0 then 8 * ((a + 7) / 8 + n) else 0
def byR (s : ByteArray) (a n : Int) : Value := .tuple #[.string (byB s a n), .agg #[.string (byS s a n), .int .i64 (byA s a n)], .int .i64 (byE s.size a n)]
end Go.Proofs.Ytgopaajmbifbaaa
namespace Go.Proofs.Ytgopaajmbifbaaa
open Go.RowKit
set_option linter.unusedVariables false
def mxW (zs : List Int) : Nat := zs.foldl (fun m v => max m (wd v)) 0
def mxP (zs : List Int) : Int := zs.foldl (fun m v => max m v) 0
def MxRel (zs : List Int) (m i : Value) : Prop := ∃ k x : Nat, k ≤ zs.length ∧ i = .int .i64 k ∧ m = .int .i64 (x : Int) ∧ x = mxW (zs.take k) ∧ x ≤ 64
def MpRel (zs : List Int) (m i : Value) : Prop := ∃ k : Nat, ∃ x : Int, k ≤ zs.length ∧ i = .int .i64 k ∧ m = .int .i64 x ∧ x = mxP (zs.take k) ∧ 0 ≤ x ∧ x ≤ 9223372036854775807
end Go.Proofs.Ytgopaajmbifbaaa
namespace Go.Proofs.Ytgopaajmbifbaaa
open Go.RowKit
set_option linter.unusedVariables false
namespace F
def len : List (Nat × Nat) → Nat
  | [] => 0
  | p :: fs => p.2 + len fs
def num : List (Nat × Nat) → Nat
  | [] => 0
  | p :: fs => p.1 * B.P2 (len fs) + num fs
def ok (fs : List (Nat × Nat)) : Prop := ∀ p ∈ fs, p.1 < B.P2 p.2
theorem ok_cons {p : Nat × Nat} {fs : List (Nat × Nat)} (h : ok (p :: fs)) : p.1 < B.P2 p.2 ∧ ok fs := ⟨h p (by simp), fun q hq => h q (by simp [hq])⟩
theorem len_app (a b : List (Nat × Nat)) : len (a ++ b) = len a + len b := by
  induction a with
  | nil => simp [len]
  | cons p a ih => simp only [List.cons_append, len, ih]; omega
theorem num_app (a b : List (Nat × Nat)) : num (a ++ b) = num a * B.P2 (len b) + num b := by
  induction a with
  | nil => simp [num]
  | cons p a ih => simp only [List.cons_append, num, ih, len_app, B.P2_add, Nat.add_mul, Nat.mul_assoc, Nat.add_assoc]
theorem num_lt {fs : List (Nat × Nat)} (h : ok fs) : num fs < B.P2 (len fs) := by
  induction fs with
  | nil => simp [num, len, B.P2_zero]
  | cons p fs ih => exact B.join_lt (ok_cons h).1 (ih (ok_cons h).2)
def bys (fs : List (Nat × Nat)) : List UInt8 := B.putL [] 0 (num fs) (len fs)
def fr (fs : List (Nat × Nat)) : Nat := B.putF 0 0 (len fs)
theorem put {fs : List (Nat × Nat)} {v n : Nat} (h : ok fs) (hv : v < B.P2 n) : B.putL (bys fs) (fr fs) v n = bys (fs ++ [(v, n)]) ∧ B.putF (bys fs).length (fr fs) n = fr (fs ++ [(v, n)]) := by
  have e1 : len (fs ++ [(v, n)]) = len fs + n := by rw [len_app]; simp [len]
  have e2 : num (fs ++ [(v, n)]) = num fs * B.P2 n + v := by rw [num_app]; simp [len, num, B.P2_zero]
  constructor
  · unfold bys fr
    rw [e1, e2]
    exact B.putL_comp [] 0 (num fs) (len fs) v n (by omega) (num_lt h) hv
  · unfold fr
    rw [e1]
    unfold bys
    rw [B.putL_len]
    exact B.putF_comp 0 0 (len fs) n (by omega)
def wrV (fs : List (Nat × Nat)) : Value := .agg #[.string (bs (bys fs)), .int .i64 (fr fs : Int)]
def nums (h : Nat) (l : List Int) : List (Nat × Nat) := (mxW l, h) :: l.map fun v => (sgU v (mxW l), mxW l)
end F
structure RS where
  s : ByteArray
  a : Int
  e : Int
namespace RS
def pl (x : RS) (n : Int) : Int := if x.e = 0 then plV x.s x.a n else 0
def sg (x : RS) (n : Int) : Int := if x.e = 0 then sgV x.s x.a n else 0
def go (x : RS) (n : Int) : RS := if x.e = 0 then ⟨plS x.s x.a n, plA x.s x.a n, plE x.s.size x.a n⟩ else x
def on (x : RS) (n : Int) : Nat → RS
  | 0 => x
  | k + 1 => (on x n k).go n
def l (x : RS) (n : Int) : Nat → List Int
  | 0 => []
  | k + 1 => l x n k ++ [(on x n k).sg n]
def cells (x : RS) : Array Value := #[.string x.s, .int .i64 x.a, .int .i64 x.e]
def fin (x : RS) (b : Bool) : RS := if x.e = 0 then (if b = true then ⟨x.s, alA x.s.size x.a, 0⟩ else ⟨⟨#[]⟩, 0, 3⟩) else ⟨⟨#[]⟩, 0, x.e⟩
def begP (s : ByteArray) (a : Int) : RS := ⟨s, alA s.size a, 0⟩
def begR (s : ByteArray) (a : Int) : RS := if 0 ≤ a ∧ a ≤ 8 * s.size then ⟨s, alA s.size a, 0⟩ else ⟨⟨#[]⟩, 0, 1⟩
end RS
end Go.Proofs.Ytgopaajmbifbaaa
