import Derived.Test.YtgopaajmbifbaaaZS11
namespace Go.Proofs.Ytgopaajmbifbaaa
open Go.RowKit
set_option linter.unusedVariables false
set_option linter.unusedSimpArgs false
set_option maxRecDepth 100000
theorem ints1_run17 (x : Int) (w : World) : (Instr.buildSlice 37 1 [(0, .int .i64 x)].toArray).run Try.prog w = .ok (.slice (some ⟨w.heap.size, 0, none⟩) 1 1) (w.alloc (.cells (iA [x]) 3)) := by
  obtain ⟨ie, h1, h2⟩ := Option.map_eq_some_iff.1 int_info
  have hz := congrArg (·.1) h2
  have hs : ie.size = 1 := congrArg (·.2.1) h2
  refine run_buildSlice w 37 3 1 _ _ ie _ Try.underlying37 h1 hz (by rw [hs]; decide) (by rw [hs]; decide) ?_
  rw [hs]; kernel_rfl
theorem ints_arg17 (zs : List Int) (a : Addr) (len cap : Nat) (w : World) (hl : len ≤ cap) (hz : zs.length = cap) (hc : ∀ i, i < zs.length → w.cell? (a.add i) = some (.int .i64 (zs.getD i 0))) (hw : ∀ n ∈ zs, (Lit.int .i64 n).wf = true) (h0 : 0 < len) :
    ∃ b o, (zs.take len).length = len ∧ a = ⟨b, o, none⟩ ∧ Ints w (zs.take len) (some a) b o := by
  have hlt : (zs.take len).length = len := by rw [List.length_take]; omega
  obtain ⟨b, o, rfl, hc2⟩ := ints_at hc (by omega)
  refine ⟨b, o, hlt, rfl, Or.inr rfl, fun i h => ?_, fun i h => ?_⟩
  · rw [List.getElem_take]
    exact bounds_i64 (hw _ (List.getElem_mem _))
  · rw [hlt] at h
    rw [hc2 i (by omega), List.getElem_take, List.getD_eq_getElem?_getD, List.getElem?_eq_getElem (by omega)]
    rfl
def cnF (g : Nat → Int) (s : Int) : Nat → Int
  | 0 => 0
  | n + 1 => cnF g s n + (if g n = s then 1 else 0)
theorem cnF_bd (g : Nat → Int) (s : Int) : ∀ n : Nat, 0 ≤ cnF g s n ∧ cnF g s n ≤ (n : Int)
  | 0 => by simp [cnF]
  | n + 1 => by
    have h := cnF_bd g s n
    unfold cnF
    split <;> omega
def sL (f : Int → Int) : List Int → Int
  | [] => 0
  | a :: l => f a + sL f l
theorem sL_app (f : Int → Int) : ∀ l m, sL f (l ++ m) = sL f l + sL f m
  | [], m => by simp [sL]
  | a :: l, m => by simp only [List.cons_append, sL, sL_app f l m]; omega
theorem sL_add (f g : Int → Int) : ∀ l, sL (fun s => f s + g s) l = sL f l + sL g l
  | [] => rfl
  | a :: l => by simp only [sL, sL_add f g l]; omega
theorem sL_one (v : Int) : ∀ l : List Int, l.Nodup → sL (fun s => if v = s then 1 else 0) l = if v ∈ l then 1 else 0
  | [], _ => rfl
  | a :: l, h => by
    obtain ⟨h1, h2⟩ := List.nodup_cons.1 h
    have h3 := sL_one v l h2
    simp only [sL, h3, List.mem_cons]
    by_cases e : v = a
    · subst e
      rw [if_pos rfl, if_neg h1, if_pos (Or.inl rfl)]
      rfl
    · rw [if_neg e]
      by_cases e2 : v ∈ l
      · rw [if_pos e2, if_pos (Or.inr e2)]; rfl
      · rw [if_neg e2, if_neg (fun e3 => e3.elim e e2)]; rfl
theorem sL_zero : ∀ l : List Int, sL (fun _ => 0) l = 0
  | [] => rfl
  | a :: l => by simp only [sL, sL_zero l]; rfl
theorem sL_all (g : Nat → Int) (l : List Int) (hn : l.Nodup) : ∀ n : Nat, (∀ i, i < n → g i ∈ l) → sL (fun s => cnF g s n) l = (n : Int)
  | 0, _ => sL_zero l
  | n + 1, h => by
    have e : (fun s => cnF g s (n + 1)) = fun s => cnF g s n + (fun s => if g n = s then 1 else 0) s := rfl
    rw [e, sL_add, sL_all g l hn n fun i hi => h i (by omega), sL_one _ l hn, if_pos (h n (by omega))]
    push_cast
    rfl
theorem sL_bd (f : Int → Int) (m : Int) (h : ∀ s, 0 ≤ f s ∧ f s ≤ m) : ∀ l : List Int, 0 ≤ sL f l ∧ sL f l ≤ m * l.length
  | [] => by simp [sL]
  | a :: l => by
    have h1 := sL_bd f m h l
    have h2 := h a
    simp only [sL, List.length_cons]
    rw [show m * ((l.length + 1 : Nat) : Int) = m * (l.length : Int) + m by push_cast; rw [Int.mul_add, Int.mul_one]]
    omega
def pxI (w x y i : Nat) : Nat := (4 * y + i / 4) * 4 * w + 4 * x + i % 4
theorem cov_cnF (z : Nat → Int) (w x y : Nat) (s : Int) : cov z w x y s 4 = cnF (fun i => z (pxI w x y i)) s 16 := by
  simp only [cov, cnR, cnF, pxI, Nat.reduceDiv, Nat.reduceMod, Nat.add_zero, Nat.zero_add, Int.add_assoc, Int.zero_add]
  rfl
theorem px_lt {w h x y i : Nat} (hx : x < w) (hy : y < h) (hi : i < 16) : pxI w x y i < 16 * w * h := by
  unfold pxI
  have h1 : (4 * y + i / 4 + 1) * (4 * w) ≤ (4 * h) * (4 * w) := Nat.mul_le_mul_right _ (by omega)
  have h2 : (4 * h) * (4 * w) = 16 * w * h := by grind
  have h3 : (4 * y + i / 4 + 1) * (4 * w) = (4 * y + i / 4) * 4 * w + 4 * w := by grind
  omega
theorem px_lin {n P x J B R k : Nat} (hB : B = P + 4 * x + J) (hBn : B < n) (hnm : n ≤ 16384) (hJ : J = k % 4) (hR : R = k / 4) (hk : k < 16) : (k : Int).tdiv 4 = (R : Int) ∧ (k : Int).tmod 4 = (J : Int) ∧ wrap64 (P : Int) = (P : Int) ∧ (P : Int) + 4 * (x : Int) + (J : Int) = (B : Int) ∧ (P : Int) + 4 * (x : Int) ≤ 16384 ∧ (J : Int) < 4 ∧ (R : Int) < 4 ∧ (B : Int) < (n : Int) := by
  refine ⟨?_, ?_, w64 _ (by omega), ?_, ?_, ?_, ?_, ?_⟩
  · rw [Int.tdiv_eq_ediv_of_nonneg (by omega)]; omega
  · rw [Int.tmod_eq_emod_of_nonneg (by omega)]; omega
  all_goals omega
theorem px_all {w h x y k n : Nat} (hx : x < w) (hy : y < h) (hk : k < 16) (hn : n = 16 * w * h) (hnm : n ≤ 16384) : ∃ P B R J : Nat, B = pxI w x y k ∧ B < n ∧ (k : Int).tdiv 4 = (R : Int) ∧ (k : Int).tmod 4 = (J : Int) ∧ wrap64 ((4 * (y : Int) + (R : Int)) * 4 * (w : Int)) = (P : Int) ∧ (P : Int) + 4 * (x : Int) + (J : Int) = (B : Int) ∧ (P : Int) + 4 * (x : Int) ≤ 16384 ∧ (J : Int) < 4 ∧ (R : Int) < 4 ∧ (B : Int) < (n : Int) := by
  have hB : pxI w x y k = (4 * y + k / 4) * 4 * w + 4 * x + k % 4 := rfl
  have hBn : pxI w x y k < n := by rw [hn]; exact px_lt hx hy hk
  obtain ⟨f1, f2, f3, f4, f5, f6, f7, f8⟩ := px_lin hB hBn hnm rfl rfl hk
  refine ⟨_, _, _, _, rfl, hBn, f1, f2, ?_, f4, f5, f6, f7, f8⟩
  rw [show (4 * (y : Int) + ((k / 4 : Nat) : Int)) * 4 * (w : Int) = (((4 * y + k / 4) * 4 * w : Nat) : Int) by push_cast; rfl]
  exact f3
set_option maxHeartbeats 2000000 in
theorem covers17_many (a : Option Addr) (n c : Nat) (w h x y st : Int) (w0 : World) (hn : (16384 : Int) < (n : Int)) :
    Calls Try.prog 5 #[.slice a n c, .int .i64 w, .int .i64 h, .int .i64 x, .int .i64 y, .int .i64 st] w0 fun e w' => e = .returned (.bool true) ∧ Below w0.heap.size w0 w' := by
  go_enter Try.func5, Try.ntmps5
  go_wp2_with (first
    | (go_at_call 11; (with_reducible refine (awake17_any _).mono ?_); rintro e W1 ⟨rfl, k1⟩; have Hw1 := k1; clear k1))
  go_ret
  exact ⟨rfl, Hw1⟩
set_option maxHeartbeats 2000000 in
theorem covers17_no0 (a : Option Addr) (n c : Nat) (w h x y st N : Int) (w0 : World) (hn : (n : Int) ≤ 16384) (q0 : w < 1) (HC : Hid (∀ W, Calls Try.prog 21 #[.slice a n c, .int .i64 w, .int .i64 h, .int .i64 x, .int .i64 y, .int .i64 st] W fun e w' => e = .returned (.int .i64 0) ∧ Below W.heap.size W w')) :
    Calls Try.prog 5 #[.slice a n c, .int .i64 w, .int .i64 h, .int .i64 x, .int .i64 y, .int .i64 st] w0 fun e w' => e = .returned (.bool true) ∧ Below w0.heap.size w0 w' := by
  go_enter Try.func5, Try.ntmps5
  go_wp2_with (first
    | (go_at_call 21; (with_reducible refine (HC.out _).mono ?_); rintro e W1 ⟨rfl, k1⟩; have Hw1 := k1; clear k1)
    | (go_at_call 11; (with_reducible refine (awake17_any _).mono ?_); rintro e W2 ⟨rfl, k2⟩; have Hw2 := bq_trans Hw1 k2; clear k2 Hw1))
  go_ret
  exact ⟨rfl, Hw2⟩
set_option maxHeartbeats 2000000 in
theorem covers17_no1 (a : Option Addr) (n c : Nat) (w h x y st N : Int) (w0 : World) (hn : (n : Int) ≤ 16384) (q0 : 256 < w) (HC : Hid (∀ W, Calls Try.prog 21 #[.slice a n c, .int .i64 w, .int .i64 h, .int .i64 x, .int .i64 y, .int .i64 st] W fun e w' => e = .returned (.int .i64 0) ∧ Below W.heap.size W w')) :
    Calls Try.prog 5 #[.slice a n c, .int .i64 w, .int .i64 h, .int .i64 x, .int .i64 y, .int .i64 st] w0 fun e w' => e = .returned (.bool true) ∧ Below w0.heap.size w0 w' := by
  go_enter Try.func5, Try.ntmps5
  go_wp2_with (first
    | (go_at_call 21; (with_reducible refine (HC.out _).mono ?_); rintro e W1 ⟨rfl, k1⟩; have Hw1 := k1; clear k1)
    | (go_at_call 11; (with_reducible refine (awake17_any _).mono ?_); rintro e W2 ⟨rfl, k2⟩; have Hw2 := bq_trans Hw1 k2; clear k2 Hw1))
  go_ret
  exact ⟨rfl, Hw2⟩
set_option maxHeartbeats 2000000 in
theorem covers17_no2 (a : Option Addr) (n c : Nat) (w h x y st N : Int) (w0 : World) (hn : (n : Int) ≤ 16384) (q0 : 1 ≤ w) (q1 : w ≤ 256) (q2 : h < 1) (HC : Hid (∀ W, Calls Try.prog 21 #[.slice a n c, .int .i64 w, .int .i64 h, .int .i64 x, .int .i64 y, .int .i64 st] W fun e w' => e = .returned (.int .i64 0) ∧ Below W.heap.size W w')) :
    Calls Try.prog 5 #[.slice a n c, .int .i64 w, .int .i64 h, .int .i64 x, .int .i64 y, .int .i64 st] w0 fun e w' => e = .returned (.bool true) ∧ Below w0.heap.size w0 w' := by
  go_enter Try.func5, Try.ntmps5
  go_wp2_with (first
    | (go_at_call 21; (with_reducible refine (HC.out _).mono ?_); rintro e W1 ⟨rfl, k1⟩; have Hw1 := k1; clear k1)
    | (go_at_call 11; (with_reducible refine (awake17_any _).mono ?_); rintro e W2 ⟨rfl, k2⟩; have Hw2 := bq_trans Hw1 k2; clear k2 Hw1))
  go_ret
  exact ⟨rfl, Hw2⟩
set_option maxHeartbeats 2000000 in
theorem covers17_no3 (a : Option Addr) (n c : Nat) (w h x y st N : Int) (w0 : World) (hn : (n : Int) ≤ 16384) (q0 : 1 ≤ w) (q1 : w ≤ 256) (q2 : 256 < h) (HC : Hid (∀ W, Calls Try.prog 21 #[.slice a n c, .int .i64 w, .int .i64 h, .int .i64 x, .int .i64 y, .int .i64 st] W fun e w' => e = .returned (.int .i64 0) ∧ Below W.heap.size W w')) :
    Calls Try.prog 5 #[.slice a n c, .int .i64 w, .int .i64 h, .int .i64 x, .int .i64 y, .int .i64 st] w0 fun e w' => e = .returned (.bool true) ∧ Below w0.heap.size w0 w' := by
  go_enter Try.func5, Try.ntmps5
  go_wp2_with (first
    | (go_at_call 21; (with_reducible refine (HC.out _).mono ?_); rintro e W1 ⟨rfl, k1⟩; have Hw1 := k1; clear k1)
    | (go_at_call 11; (with_reducible refine (awake17_any _).mono ?_); rintro e W2 ⟨rfl, k2⟩; have Hw2 := bq_trans Hw1 k2; clear k2 Hw1))
  go_ret
  exact ⟨rfl, Hw2⟩
set_option maxHeartbeats 2000000 in
theorem covers17_no4 (a : Option Addr) (n c : Nat) (w h x y st N : Int) (w0 : World) (hn : (n : Int) ≤ 16384) (q0 : 1 ≤ w) (q1 : w ≤ 256) (q2 : 1 ≤ h) (q3 : h ≤ 256) (q4 : wrap64 (16 * w * h) = N) (q5 : ((n : Int) != N) = true) (HC : Hid (∀ W, Calls Try.prog 21 #[.slice a n c, .int .i64 w, .int .i64 h, .int .i64 x, .int .i64 y, .int .i64 st] W fun e w' => e = .returned (.int .i64 0) ∧ Below W.heap.size W w')) :
    Calls Try.prog 5 #[.slice a n c, .int .i64 w, .int .i64 h, .int .i64 x, .int .i64 y, .int .i64 st] w0 fun e w' => e = .returned (.bool true) ∧ Below w0.heap.size w0 w' := by
  go_enter Try.func5, Try.ntmps5
  go_wp2_with (first
    | (go_at_call 21; (with_reducible refine (HC.out _).mono ?_); rintro e W1 ⟨rfl, k1⟩; have Hw1 := k1; clear k1)
    | (go_at_call 11; (with_reducible refine (awake17_any _).mono ?_); rintro e W2 ⟨rfl, k2⟩; have Hw2 := bq_trans Hw1 k2; clear k2 Hw1))
  go_ret
  exact ⟨rfl, Hw2⟩
set_option maxHeartbeats 2000000 in
theorem covers17_no5 (a : Option Addr) (n c : Nat) (w h x y st N : Int) (w0 : World) (hn : (n : Int) ≤ 16384) (q0 : 1 ≤ w) (q1 : w ≤ 256) (q2 : 1 ≤ h) (q3 : h ≤ 256) (q4 : wrap64 (16 * w * h) = N) (q5 : ((n : Int) != N) = false) (q6 : x < 0) (HC : Hid (∀ W, Calls Try.prog 21 #[.slice a n c, .int .i64 w, .int .i64 h, .int .i64 x, .int .i64 y, .int .i64 st] W fun e w' => e = .returned (.int .i64 0) ∧ Below W.heap.size W w')) :
    Calls Try.prog 5 #[.slice a n c, .int .i64 w, .int .i64 h, .int .i64 x, .int .i64 y, .int .i64 st] w0 fun e w' => e = .returned (.bool true) ∧ Below w0.heap.size w0 w' := by
  go_enter Try.func5, Try.ntmps5
  go_wp2_with (first
    | (go_at_call 21; (with_reducible refine (HC.out _).mono ?_); rintro e W1 ⟨rfl, k1⟩; have Hw1 := k1; clear k1)
    | (go_at_call 11; (with_reducible refine (awake17_any _).mono ?_); rintro e W2 ⟨rfl, k2⟩; have Hw2 := bq_trans Hw1 k2; clear k2 Hw1))
  go_ret
  exact ⟨rfl, Hw2⟩
set_option maxHeartbeats 2000000 in
theorem covers17_no6 (a : Option Addr) (n c : Nat) (w h x y st N : Int) (w0 : World) (hn : (n : Int) ≤ 16384) (q0 : 1 ≤ w) (q1 : w ≤ 256) (q2 : 1 ≤ h) (q3 : h ≤ 256) (q4 : wrap64 (16 * w * h) = N) (q5 : ((n : Int) != N) = false) (q6 : 0 ≤ x) (q7 : w ≤ x) (HC : Hid (∀ W, Calls Try.prog 21 #[.slice a n c, .int .i64 w, .int .i64 h, .int .i64 x, .int .i64 y, .int .i64 st] W fun e w' => e = .returned (.int .i64 0) ∧ Below W.heap.size W w')) :
    Calls Try.prog 5 #[.slice a n c, .int .i64 w, .int .i64 h, .int .i64 x, .int .i64 y, .int .i64 st] w0 fun e w' => e = .returned (.bool true) ∧ Below w0.heap.size w0 w' := by
  go_enter Try.func5, Try.ntmps5
  go_wp2_with (first
    | (go_at_call 21; (with_reducible refine (HC.out _).mono ?_); rintro e W1 ⟨rfl, k1⟩; have Hw1 := k1; clear k1)
    | (go_at_call 11; (with_reducible refine (awake17_any _).mono ?_); rintro e W2 ⟨rfl, k2⟩; have Hw2 := bq_trans Hw1 k2; clear k2 Hw1))
  go_ret
  exact ⟨rfl, Hw2⟩
set_option maxHeartbeats 2000000 in
theorem covers17_no7 (a : Option Addr) (n c : Nat) (w h x y st N : Int) (w0 : World) (hn : (n : Int) ≤ 16384) (q0 : 1 ≤ w) (q1 : w ≤ 256) (q2 : 1 ≤ h) (q3 : h ≤ 256) (q4 : wrap64 (16 * w * h) = N) (q5 : ((n : Int) != N) = false) (q6 : 0 ≤ x) (q7 : x < w) (q8 : y < 0) (HC : Hid (∀ W, Calls Try.prog 21 #[.slice a n c, .int .i64 w, .int .i64 h, .int .i64 x, .int .i64 y, .int .i64 st] W fun e w' => e = .returned (.int .i64 0) ∧ Below W.heap.size W w')) :
    Calls Try.prog 5 #[.slice a n c, .int .i64 w, .int .i64 h, .int .i64 x, .int .i64 y, .int .i64 st] w0 fun e w' => e = .returned (.bool true) ∧ Below w0.heap.size w0 w' := by
  go_enter Try.func5, Try.ntmps5
  go_wp2_with (first
    | (go_at_call 21; (with_reducible refine (HC.out _).mono ?_); rintro e W1 ⟨rfl, k1⟩; have Hw1 := k1; clear k1)
    | (go_at_call 11; (with_reducible refine (awake17_any _).mono ?_); rintro e W2 ⟨rfl, k2⟩; have Hw2 := bq_trans Hw1 k2; clear k2 Hw1))
  go_ret
  exact ⟨rfl, Hw2⟩
set_option maxHeartbeats 2000000 in
theorem covers17_no8 (a : Option Addr) (n c : Nat) (w h x y st N : Int) (w0 : World) (hn : (n : Int) ≤ 16384) (q0 : 1 ≤ w) (q1 : w ≤ 256) (q2 : 1 ≤ h) (q3 : h ≤ 256) (q4 : wrap64 (16 * w * h) = N) (q5 : ((n : Int) != N) = false) (q6 : 0 ≤ x) (q7 : x < w) (q8 : 0 ≤ y) (q9 : h ≤ y) (HC : Hid (∀ W, Calls Try.prog 21 #[.slice a n c, .int .i64 w, .int .i64 h, .int .i64 x, .int .i64 y, .int .i64 st] W fun e w' => e = .returned (.int .i64 0) ∧ Below W.heap.size W w')) :
    Calls Try.prog 5 #[.slice a n c, .int .i64 w, .int .i64 h, .int .i64 x, .int .i64 y, .int .i64 st] w0 fun e w' => e = .returned (.bool true) ∧ Below w0.heap.size w0 w' := by
  go_enter Try.func5, Try.ntmps5
  go_wp2_with (first
    | (go_at_call 21; (with_reducible refine (HC.out _).mono ?_); rintro e W1 ⟨rfl, k1⟩; have Hw1 := k1; clear k1)
    | (go_at_call 11; (with_reducible refine (awake17_any _).mono ?_); rintro e W2 ⟨rfl, k2⟩; have Hw2 := bq_trans Hw1 k2; clear k2 Hw1))
  go_ret
  exact ⟨rfl, Hw2⟩
theorem covers17_no (a : Option Addr) (n c : Nat) (w h x y st : Int) (w0 : World) (hn : (n : Int) ≤ 16384) (hq : covB n w h x y = false) :
    Calls Try.prog 5 #[.slice a n c, .int .i64 w, .int .i64 h, .int .i64 x, .int .i64 y, .int .i64 st] w0 fun e w' => e = .returned (.bool true) ∧ Below w0.heap.size w0 w' := by
  have HC := Lib.hid fun W => cover_no a n c w h x y st W hq
  by_cases c1 : w < 1
  · exact covers17_no0 a n c w h x y st 0 w0 hn c1 HC
  by_cases c2 : 256 < w
  · exact covers17_no1 a n c w h x y st 0 w0 hn c2 HC
  by_cases c3 : h < 1
  · exact covers17_no2 a n c w h x y st 0 w0 hn (by omega) (by omega) c3 HC
  by_cases c4 : 256 < h
  · exact covers17_no3 a n c w h x y st 0 w0 hn (by omega) (by omega) c4 HC
  have hm := mul_bd 4096 256 (show -4096 ≤ 16 * w ∧ 16 * w ≤ 4096 by omega) (show -256 ≤ h ∧ h ≤ 256 by omega)
  have ew : wrap64 (16 * w * h) = 16 * w * h := w64 _ (by omega)
  by_cases hl : (n : Int) = 16 * w * h
  · have hl' : ((n : Int) != 16 * w * h) = false := by simp [hl]
    by_cases d1 : 0 ≤ x
    · by_cases d2 : x < w
      · by_cases d3 : 0 ≤ y
        · by_cases d4 : y < h
          · unfold covB at hq
            rw [frmB_of (by omega)] at hq
            simp [hl, d1, d2, d3, d4] at hq
          · exact covers17_no8 a n c w h x y st _ w0 hn (by omega) (by omega) (by omega) (by omega) ew hl' d1 d2 d3 (by omega) HC
        · exact covers17_no7 a n c w h x y st _ w0 hn (by omega) (by omega) (by omega) (by omega) ew hl' d1 d2 (by omega) HC
      · exact covers17_no6 a n c w h x y st _ w0 hn (by omega) (by omega) (by omega) (by omega) ew hl' d1 (by omega) HC
    · exact covers17_no5 a n c w h x y st _ w0 hn (by omega) (by omega) (by omega) (by omega) ew hl' (by omega) HC
  · exact covers17_no4 a n c w h x y st _ w0 hn (by omega) (by omega) (by omega) (by omega) ew (by simp [hl]) HC
end Go.Proofs.Ytgopaajmbifbaaa
namespace Go.Proofs.Ytgopaajmbifbaaa
open Go.RowKit
set_option linter.unusedVariables false
set_option linter.unusedSimpArgs false
set_option maxRecDepth 100000
set_option maxHeartbeats 8000000 in
theorem covers17_main (zs : List Int) (b o n c : Nat) (w h x y : Nat) (st : Int) (w0 : World) (hz : Ints w0 zs (some ⟨b, o, none⟩) b o) (hn : n = zs.length) (hnc : n ≤ c) (hnm : n ≤ 16384) (hw0 : 1 ≤ w) (hw1 : w ≤ 256) (hh0 : 1 ≤ h) (hh1 : h ≤ 256) (hx : x < w) (hy : y < h) (hN : n = 16 * w * h) :
    Calls Try.prog 5 #[.slice (some ⟨b, o, none⟩) n c, .int .i64 (w : Int), .int .i64 (h : Int), .int .i64 (x : Int), .int .i64 (y : Int), .int .i64 st] w0 fun e w' => e = .returned (.bool true) ∧ Below w0.heap.size w0 w' := by
  have HCV : Hid (∀ (s : Int) (W : World), Below w0.heap.size w0 W → Calls Try.prog 21 #[.slice (some ⟨b, o, none⟩) n c, .int .i64 (w : Int), .int .i64 (h : Int), .int .i64 (x : Int), .int .i64 (y : Int), .int .i64 s] W fun e w' => e = .returned (.int .i64 (cnF (fun i => zF zs (pxI w x y i)) s 16)) ∧ Below W.heap.size W w') := Lib.hid fun s W hW => by
    have h1 := cover_yes zs b o n c w h x y s W (hz.keep hW) hn hnc hw0 hw1 hh0 hh1 hx hy hN
    rw [cov_cnF] at h1
    exact h1
  have ew : wrap64 (16 * (w : Int) * (h : Int)) = (n : Int) := by
    rw [show 16 * (w : Int) * (h : Int) = (n : Int) by rw [hN]; push_cast; rfl]
    exact w64 _ (by omega)
  have en : ((n : Int) != (n : Int)) = false := by simp
  have HPX : Hid (∀ k : Nat, k < 16 → ∃ P B R J : Nat, B = pxI w x y k ∧ B < n ∧ (k : Int).tdiv 4 = (R : Int) ∧ (k : Int).tmod 4 = (J : Int) ∧ wrap64 ((4 * (y : Int) + (R : Int)) * 4 * (w : Int)) = (P : Int) ∧ (P : Int) + 4 * (x : Int) + (J : Int) = (B : Int) ∧ (P : Int) + 4 * (x : Int) ≤ 16384 ∧ (J : Int) < 4 ∧ (R : Int) < 4 ∧ (B : Int) < (n : Int)) := Lib.hid fun k hk => px_all hx hy hk hN hnm
  clear hN
  have HZ := Lib.hid hz
  have HN := Lib.hid hn
  have hn9 : (n : Int) ≤ 16384 := by omega
  have x1 : (x : Int) < (w : Int) := by omega
  have y1 : (y : Int) < (h : Int) := by omega
  have hw9 : (w : Int) ≤ 256 := by omega
  have hh9 : (h : Int) ≤ 256 := by omega
  have hw8 : 1 ≤ (w : Int) := by omega
  have hh8 : 1 ≤ (h : Int) := by omega
  clear hn hz
  go_enter Try.func5, Try.ntmps5
  go_wp2_with (first
    | (go_at_call 21; (with_reducible refine (HCV.out st _ (bq_refl _)).mono ?_); rintro e W1 ⟨rfl, k1⟩; have Hw1 := k1; clear k1))
  have HB0 := Lib.hid Hw1
  clear Hw1 ew en
  generalize decide (w ≤ x) = dx
  generalize decide (h ≤ y) = dy
  go_loopw [14, 15, 16] (fun t sn i wr => ∃ k : Nat, k ≤ 16 ∧ i = .int .i64 (k : Int) ∧ t = .int .i64 (cnF (fun i => zF zs (pxI w x y i)) st k) ∧ (∃ M : List Int, OwnI wr w0.heap.size sn M ∧ M.Nodup ∧ (∀ v, v ∈ M ↔ ∃ i, i < k ∧ zF zs (pxI w x y i) = v) ∧ M.length ≤ k ∧ (∀ z ∈ M, -9223372036854775808 ≤ z ∧ z ≤ 9223372036854775807)) ∧ Below w0.heap.size w0 wr) (fun _ _ i _ => 16 - (intOf i).toNat)
  case atStart => exact ⟨0, by omega, rfl, rfl, ⟨[], ownI_nil _ _, List.nodup_nil, fun v => by simp, by simp, fun z hz => by simp at hz⟩, HB0.out⟩
  case round =>
    obtain ⟨k, hk, rfl, rfl, ⟨M, how, hnd, hsee, hmk, hmb⟩, hbel⟩ := hrel
    have HB := Lib.hid hbel
    have HOW := Lib.hid how
    have HND := Lib.hid hnd
    have HSEE := Lib.hid hsee
    have HMK := Lib.hid hmk
    have HMB := Lib.hid hmb
    clear hbel hnd hsee hmk hmb
    by_cases hlt : k < 16
    · have cb := cnF_bd (fun i => zF zs (pxI w x y i)) st k
      obtain ⟨P, B, R, J, hBe, hBn, eR, eJ, e1, e2, p9, p8, p7, b1⟩ := HPX.out k hlt
      obtain ⟨_, z0, z1, cz⟩ := HZ.out.at HB.out B (by have := HN.out; omega)
      have HZ2 : Hid (zF zs (pxI w x y k) = zs[B]'(by have := HN.out; omega)) := Lib.hid (by
        simp only [← hBe]
        exact zF_at zs B (by have := HN.out; omega))
      have HZB : Hid (-9223372036854775808 ≤ zs[B]'(by have := HN.out; omega) ∧ zs[B]'(by have := HN.out; omega) ≤ 9223372036854775807) := Lib.hid ⟨z0, z1⟩
      have HK : Hid (cnF (fun i => zF zs (pxI w x y i)) st (k + 1) = cnF (fun i => zF zs (pxI w x y i)) st k + (if zs[B]'(by have := HN.out; omega) = st then 1 else 0)) := Lib.hid (by rw [← HZ2.out]; rfl)
      obtain ⟨sa, sb, sc, rfl, hI⟩ := how.ints HMB.out
      have HI := Lib.hid hI
      have m9 : (M.length : Int) ≤ 16 := by have := HMK.out; omega
      obtain ⟨m, hm⟩ : ∃ m, m = M.length := ⟨_, rfl⟩
      have HML := Lib.hid hm
      rw [← hm] at m9 HOW
      rw [← hm]
      generalize cnF (fun i => zF zs (pxI w x y i)) st k = C at *
      generalize zs[B]'(by have := HN.out; omega) = Z at *
      have c0 : 0 ≤ C := cb.1
      have c1 : C ≤ (k : Int) := cb.2
      have k1 : (k : Int) < 16 := by omega
      clear cb hBe hI how hm z0 z1
      by_cases hq : Z = st
      · have q1 : (Z == st) = true := beq_iff_eq.2 hq
        rw [if_pos hq] at HK
        clear hq
        go_wp2_with fail
        go_loop [18, 109] (fun th i => ∃ j : Nat, j ≤ m ∧ i = .int .i64 (j : Int) ∧ th = .bool (decide (Z ∈ M.take j))) (fun _ i => m - (intOf i).toNat)
        case atStart => exact ⟨0, by omega, rfl, by simp⟩
        case round =>
          obtain ⟨j, hj, rfl, rfl⟩ := hrel
          by_cases hjl : j < m
          · have hjM : j < M.length := by have := HML.out; omega
            obtain ⟨rfl, _, _, cj⟩ := HI.out.at (bq_refl _) j hjM
            have HJ : Hid (decide (Z ∈ M.take (j + 1)) = (decide (Z ∈ M.take j) || (M[j] == Z))) := Lib.hid (by
              rw [List.take_succ_eq_append_getElem hjM, Bool.eq_iff_iff]
              simp only [decide_eq_true_eq, List.mem_append, List.mem_singleton, Bool.or_eq_true, beq_iff_eq]
              exact or_congr Iff.rfl eq_comm)
            have j1 : (j : Int) < (m : Int) := by omega
            rw [Nat.zero_add] at cj
            generalize M[j] = S at *
            generalize decide (Z ∈ M.take j) = T at *
            cases T with
            | true =>
              go_wp2_with fail
              go_round
              case rel => exact ⟨j + 1, by omega, by go_num, congrArg Value.bool (by rw [HJ.out]; rfl)⟩
              case measure => simp [intOf]; omega
            | false =>
              go_wp2_with fail
              go_round
              case rel => exact ⟨j + 1, by omega, by go_num, congrArg Value.bool (by rw [HJ.out]; rfl)⟩
              case measure => simp [intOf]; omega
          · obtain rfl : j = m := by omega
            have HT : Hid (M.take j = M) := Lib.hid (List.take_of_length_le (by have := HML.out; omega))
            by_cases hin : Z ∈ M
            · have ed : decide (Z ∈ M.take j) = true := by rw [HT.out]; exact decide_eq_true hin
              have HS : Hid (∀ v, v ∈ M ↔ ∃ i, i < k + 1 ∧ zF zs (pxI w x y i) = v) := Lib.hid fun v => by
                rw [HSEE.out v]
                constructor
                · rintro ⟨i, h1, h2⟩; exact ⟨i, by omega, h2⟩
                · rintro ⟨i, h1, h2⟩
                  by_cases h3 : i < k
                  · exact ⟨i, h3, h2⟩
                  · obtain rfl : i = k := by omega
                    rw [← h2, HZ2.out]
                    exact (HSEE.out Z).1 hin
              rw [ed]
              go_wp2_with fail
              go_roundw
              case rel => exact ⟨k + 1, by omega, by go_num, congrArg (Value.int .i64) HK.out.symm, ⟨M, HOW.out, HND.out, HS.out, by have := HML.out; have := HMK.out; omega, HMB.out⟩, HB.out⟩
              case measure => simp [intOf]; omega
            · have ed : decide (Z ∈ M.take j) = false := by rw [HT.out]; exact decide_eq_false hin
              have HS : Hid (∀ v, v ∈ M ++ [Z] ↔ ∃ i, i < k + 1 ∧ zF zs (pxI w x y i) = v) := Lib.hid fun v => by
                rw [List.mem_append, HSEE.out v, List.mem_singleton]
                constructor
                · rintro (⟨i, h1, h2⟩ | rfl)
                  · exact ⟨i, by omega, h2⟩
                  · exact ⟨k, by omega, HZ2.out⟩
                · rintro ⟨i, h1, h2⟩
                  by_cases h3 : i < k
                  · exact Or.inl ⟨i, h3, h2⟩
                  · obtain rfl : i = k := by omega
                    exact Or.inr (by rw [← h2, HZ2.out])
              have HN2 : Hid ((M ++ [Z]).Nodup) := Lib.hid (by
                rw [List.nodup_append]
                exact ⟨HND.out, by simp, fun a ha b hb => by simp only [List.mem_singleton] at hb; subst hb; intro e; exact hin (e ▸ ha)⟩)
              have HB2 : Hid (∀ z ∈ M ++ [Z], -9223372036854775808 ≤ z ∧ z ≤ 9223372036854775807) := Lib.hid fun z hz => by
                rcases List.mem_append.1 hz with h1 | h1
                · exact HMB.out z h1
                · simp only [List.mem_singleton] at h1; subst h1; exact HZB.out
              have OW := HOW.out
              have hsz := HB.out.size
              rw [ed]
              go_wp2_with (first
                | (refine wlg_slice 37 3 1 _ _ (ints1_run17 Z) _ rfl rfl rfl ?_; intro W7 b7 B7 l7 k7; have OW7 := OW.keep k7; have HB7 := HB.out.trans (k7.mono HB.out.size))
                | (refine wl_appI _ _ rfl rfl w0.heap.size _ rfl _ OW7 [Z] b7 0 1 1 rfl rfl (fun i hi => by have : i = 0 := (by simp at hi; omega); subst this; exact B7.cell 0) (by have := HML.out; have := HMK.out; simp; omega) (by have := k7.size; omega) ?_; intro v8 W8 O8 k8; have HB8 := HB7.trans k8))
              go_roundw
              case rel => exact ⟨k + 1, by omega, by go_num, congrArg (Value.int .i64) HK.out.symm, ⟨M ++ [Z], O8, HN2.out, HS.out, by have := HML.out; have := HMK.out; simp; omega, HB2.out⟩, HB8⟩
              case measure => simp [intOf]; omega
      · have q1 : (Z == st) = false := beq_eq_false_iff_ne.2 hq
        rw [if_neg hq, Int.add_zero] at HK
        clear hq
        go_wp2_with fail
        go_loop [18, 109] (fun th i => ∃ j : Nat, j ≤ m ∧ i = .int .i64 (j : Int) ∧ th = .bool (decide (Z ∈ M.take j))) (fun _ i => m - (intOf i).toNat)
        case atStart => exact ⟨0, by omega, rfl, by simp⟩
        case round =>
          obtain ⟨j, hj, rfl, rfl⟩ := hrel
          by_cases hjl : j < m
          · have hjM : j < M.length := by have := HML.out; omega
            obtain ⟨rfl, _, _, cj⟩ := HI.out.at (bq_refl _) j hjM
            have HJ : Hid (decide (Z ∈ M.take (j + 1)) = (decide (Z ∈ M.take j) || (M[j] == Z))) := Lib.hid (by
              rw [List.take_succ_eq_append_getElem hjM, Bool.eq_iff_iff]
              simp only [decide_eq_true_eq, List.mem_append, List.mem_singleton, Bool.or_eq_true, beq_iff_eq]
              exact or_congr Iff.rfl eq_comm)
            have j1 : (j : Int) < (m : Int) := by omega
            rw [Nat.zero_add] at cj
            generalize M[j] = S at *
            generalize decide (Z ∈ M.take j) = T at *
            cases T with
            | true =>
              go_wp2_with fail
              go_round
              case rel => exact ⟨j + 1, by omega, by go_num, congrArg Value.bool (by rw [HJ.out]; rfl)⟩
              case measure => simp [intOf]; omega
            | false =>
              go_wp2_with fail
              go_round
              case rel => exact ⟨j + 1, by omega, by go_num, congrArg Value.bool (by rw [HJ.out]; rfl)⟩
              case measure => simp [intOf]; omega
          · obtain rfl : j = m := by omega
            have HT : Hid (M.take j = M) := Lib.hid (List.take_of_length_le (by have := HML.out; omega))
            by_cases hin : Z ∈ M
            · have ed : decide (Z ∈ M.take j) = true := by rw [HT.out]; exact decide_eq_true hin
              have HS : Hid (∀ v, v ∈ M ↔ ∃ i, i < k + 1 ∧ zF zs (pxI w x y i) = v) := Lib.hid fun v => by
                rw [HSEE.out v]
                constructor
                · rintro ⟨i, h1, h2⟩; exact ⟨i, by omega, h2⟩
                · rintro ⟨i, h1, h2⟩
                  by_cases h3 : i < k
                  · exact ⟨i, h3, h2⟩
                  · obtain rfl : i = k := by omega
                    rw [← h2, HZ2.out]
                    exact (HSEE.out Z).1 hin
              rw [ed]
              go_wp2_with fail
              go_roundw
              case rel => exact ⟨k + 1, by omega, by go_num, congrArg (Value.int .i64) HK.out.symm, ⟨M, HOW.out, HND.out, HS.out, by have := HML.out; have := HMK.out; omega, HMB.out⟩, HB.out⟩
              case measure => simp [intOf]; omega
            · have ed : decide (Z ∈ M.take j) = false := by rw [HT.out]; exact decide_eq_false hin
              have HS : Hid (∀ v, v ∈ M ++ [Z] ↔ ∃ i, i < k + 1 ∧ zF zs (pxI w x y i) = v) := Lib.hid fun v => by
                rw [List.mem_append, HSEE.out v, List.mem_singleton]
                constructor
                · rintro (⟨i, h1, h2⟩ | rfl)
                  · exact ⟨i, by omega, h2⟩
                  · exact ⟨k, by omega, HZ2.out⟩
                · rintro ⟨i, h1, h2⟩
                  by_cases h3 : i < k
                  · exact Or.inl ⟨i, h3, h2⟩
                  · obtain rfl : i = k := by omega
                    exact Or.inr (by rw [← h2, HZ2.out])
              have HN2 : Hid ((M ++ [Z]).Nodup) := Lib.hid (by
                rw [List.nodup_append]
                exact ⟨HND.out, by simp, fun a ha b hb => by simp only [List.mem_singleton] at hb; subst hb; intro e; exact hin (e ▸ ha)⟩)
              have HB2 : Hid (∀ z ∈ M ++ [Z], -9223372036854775808 ≤ z ∧ z ≤ 9223372036854775807) := Lib.hid fun z hz => by
                rcases List.mem_append.1 hz with h1 | h1
                · exact HMB.out z h1
                · simp only [List.mem_singleton] at h1; subst h1; exact HZB.out
              have OW := HOW.out
              have hsz := HB.out.size
              rw [ed]
              go_wp2_with (first
                | (refine wlg_slice 37 3 1 _ _ (ints1_run17 Z) _ rfl rfl rfl ?_; intro W7 b7 B7 l7 k7; have OW7 := OW.keep k7; have HB7 := HB.out.trans (k7.mono HB.out.size))
                | (refine wl_appI _ _ rfl rfl w0.heap.size _ rfl _ OW7 [Z] b7 0 1 1 rfl rfl (fun i hi => by have : i = 0 := (by simp at hi; omega); subst this; exact B7.cell 0) (by have := HML.out; have := HMK.out; simp; omega) (by have := k7.size; omega) ?_; intro v8 W8 O8 k8; have HB8 := HB7.trans k8))
              go_roundw
              case rel => exact ⟨k + 1, by omega, by go_num, congrArg (Value.int .i64) HK.out.symm, ⟨M ++ [Z], O8, HN2.out, HS.out, by have := HML.out; have := HMK.out; simp; omega, HB2.out⟩, HB8⟩
              case measure => simp [intOf]; omega
    · have hk16 : k = 16 := by omega
      have k16 : (16 : Int) ≤ (k : Int) := by omega
      rw [show cnF (fun i => zF zs (pxI w x y i)) st k = cnF (fun i => zF zs (pxI w x y i)) st 16 by rw [hk16]]
      obtain ⟨WR, hWR⟩ : ∃ WR, WR = wr := ⟨_, rfl⟩
      subst hWR
      have HALL : Hid (sL (fun s => cnF (fun i => zF zs (pxI w x y i)) s 16) M = 16) := Lib.hid (sL_all (fun i => zF zs (pxI w x y i)) M HND.out 16 fun i hi => (HSEE.out _).2 ⟨i, by omega, rfl⟩)
      clear hk16
      obtain ⟨sa, sb, sc, rfl, hI⟩ := how.ints HMB.out
      have m9 : (M.length : Int) ≤ 16 := by have := HMK.out; omega
      have HI := Lib.hid hI
      have HM9 := Lib.hid m9
      obtain ⟨m, hm⟩ : ∃ m, m = M.length := ⟨_, rfl⟩
      have HML := Lib.hid hm
      rw [← hm] at m9
      rw [← hm]
      have HFB : Hid (∀ j : Nat, j ≤ 16 → 0 ≤ sL (fun s => cnF (fun i => zF zs (pxI w x y i)) s 16) (M.take j) ∧ sL (fun s => cnF (fun i => zF zs (pxI w x y i)) s 16) (M.take j) ≤ 256) := Lib.hid fun j hj => by
        have h1 := sL_bd (fun s => cnF (fun i => zF zs (pxI w x y i)) s 16) 16 (fun s => cnF_bd _ s 16) (M.take j)
        have h2 : (M.take j).length ≤ 16 := by rw [List.length_take]; omega
        omega
      clear how hI hm
      go_wp2_with fail
      go_loopw [21, 128] (fun t i wr2 => ∃ j : Nat, j ≤ m ∧ i = .int .i64 (j : Int) ∧ t = .int .i64 (sL (fun s => cnF (fun i => zF zs (pxI w x y i)) s 16) (M.take j)) ∧ Below w0.heap.size w0 wr2 ∧ Below WR.heap.size WR wr2) (fun _ i _ => m - (intOf i).toNat)
      case atStart => exact ⟨0, by omega, rfl, rfl, HB.out, bq_refl _⟩
      case round =>
        obtain ⟨j, hj, rfl, rfl, hbel3, hbw⟩ := hrel
        have HB3 := Lib.hid hbel3
        have HBW := Lib.hid hbw
        clear hbel3 hbw
        by_cases hjl : j < m
        · have hjM : j < M.length := by have := HML.out; omega
          obtain ⟨rfl, _, _, cj⟩ := HI.out.at HBW.out j hjM
          have HJ : Hid (sL (fun s => cnF (fun i => zF zs (pxI w x y i)) s 16) (M.take (j + 1)) = sL (fun s => cnF (fun i => zF zs (pxI w x y i)) s 16) (M.take j) + cnF (fun i => zF zs (pxI w x y i)) M[j] 16) := Lib.hid (by
            rw [List.take_succ_eq_append_getElem hjM, sL_app]
            simp [sL])
          have fb := HFB.out j (by omega)
          have cb := cnF_bd (fun i => zF zs (pxI w x y i)) M[j] 16
          have HCS := Lib.hid (HCV.out M[j])
          have j1 : (j : Int) < (m : Int) := by omega
          rw [Nat.zero_add] at cj
          clear HCV HALL HFB
          generalize cnF (fun i => zF zs (pxI w x y i)) M[j] 16 = V at *
          generalize M[j] = S at *
          generalize sL (fun s => cnF (fun i => zF zs (pxI w x y i)) s 16) (M.take j) = T at *
          have t0 : 0 ≤ T := fb.1
          have t1 : T ≤ 256 := fb.2
          have v0 : 0 ≤ V := cb.1
          have v1 : V ≤ 16 := cb.2
          clear fb cb
          go_wp2_with (first
            | (go_at_call 21; (with_reducible refine (HCS.out _ HB3.out).mono ?_); rintro e W61 ⟨rfl, k61⟩; have Hw61 := k61; clear k61))
          go_roundw
          case rel => exact ⟨j + 1, by omega, by go_num, congrArg (Value.int .i64) HJ.out.symm, bq_trans HB3.out Hw61, bq_trans HBW.out Hw61⟩
          case measure => simp [intOf]; omega
        · obtain rfl : j = m := by omega
          have hA : sL (fun s => cnF (fun i => zF zs (pxI w x y i)) s 16) (M.take j) = 16 := by rw [List.take_of_length_le (by have := HML.out; omega)]; exact HALL.out
          rw [hA]
          have eC : (cnF (fun i => zF zs (pxI w x y i)) st 16 == cnF (fun i => zF zs (pxI w x y i)) st 16) = true := by simp
          generalize cnF (fun i => zF zs (pxI w x y i)) st 16 = C at *
          clear HALL HFB HCV hA
          go_wp2_with (first
            | (go_at_call 11; (with_reducible refine (awake17_any _).mono ?_); rintro e W81 ⟨rfl, k81⟩; have Hw81 := k81; clear k81))
          go_ret
          exact ⟨rfl, bq_trans HB3.out Hw81⟩
theorem covers17_nil (w h x y st : Int) (w0 : World) : Calls Try.prog 5 #[.slice none 0 0, .int .i64 w, .int .i64 h, .int .i64 x, .int .i64 y, .int .i64 st] w0 fun e w' => e = .returned (.bool true) ∧ Below w0.heap.size w0 w' := by
  refine covers17_no none 0 0 w h x y st w0 (by omega) ?_
  unfold covB
  cases hf : frmB w h with
  | false => rfl
  | true =>
    obtain ⟨b1, b2, b3, b4⟩ := frmB_bd hf
    have h1 : 0 < 16 * w * h := Int.mul_pos (by omega) (by omega)
    have h2 : decide (((0 : Nat) : Int) = 16 * w * h) = false := decide_eq_false (by omega)
    rw [h2]
    rfl
theorem covers17_walk (zs : List Int) (a : Addr) (len cap : Nat) (w h x y st : Int) (w0 : World) (hl : len ≤ cap) (hm : cap ≤ maxLen) (hz : zs.length = cap) (hc : ∀ i, i < zs.length → w0.cell? (a.add i) = some (.int .i64 (zs.getD i 0))) (hw : ∀ n ∈ zs, (Lit.int .i64 n).wf = true) :
    Calls Try.prog 5 #[.slice (some a) len cap, .int .i64 w, .int .i64 h, .int .i64 x, .int .i64 y, .int .i64 st] w0 fun e w' => e = .returned (.bool true) ∧ Below w0.heap.size w0 w' := by
  by_cases hn : len ≤ 16384
  · cases hq : covB len w h x y with
    | false => exact covers17_no (some a) len cap w h x y st w0 (by omega) hq
    | true =>
      have hq2 := hq
      unfold covB at hq2
      simp only [Bool.and_eq_true, decide_eq_true_eq] at hq2
      obtain ⟨⟨⟨⟨⟨hf, hN⟩, x0⟩, x1⟩, y0⟩, y1⟩ := hq2
      obtain ⟨b1, b2, b3, b4⟩ := frmB_bd hf
      obtain ⟨W, rfl⟩ := Int.eq_ofNat_of_zero_le (show 0 ≤ w by omega)
      obtain ⟨Hh, rfl⟩ := Int.eq_ofNat_of_zero_le (show 0 ≤ h by omega)
      obtain ⟨X, rfl⟩ := Int.eq_ofNat_of_zero_le x0
      obtain ⟨Y, rfl⟩ := Int.eq_ofNat_of_zero_le y0
      have hN2 : len = 16 * W * Hh := by
        have : ((16 * W * Hh : Nat) : Int) = 16 * (W : Int) * (Hh : Int) := by push_cast; rfl
        omega
      have hp : 0 < 16 * W * Hh := Nat.mul_pos (by omega) (by omega)
      obtain ⟨b, o, hlt, rfl, hI⟩ := ints_arg17 zs a len cap w0 hl hz hc hw (by omega)
      exact covers17_main (zs.take len) b o len cap W Hh X Y st w0 hI hlt.symm hl hn (by omega) (by omega) (by omega) (by omega) (by omega) (by omega) hN2
  · exact covers17_many (some a) len cap w h x y st w0 (by omega)
end Go.Proofs.Ytgopaajmbifbaaa
