import Derived.Test.YtcfidibkihkndaaD1
import Derived.Test.YtcfidibkihkndaaD4
import Derived.Test.YtcfidibkihkndaaD7
import Derived.Test.YtcfidibkihkndaaM6
namespace Go.Proofs.Ytcfidibkihkndaa
open Go.RowKit
set_option linter.unusedVariables false

theorem row_lit (w : World) (x : Nat) : Row (w.alloc (.cells #[.int .i64 (x : Int)] 3)) w.heap.size [x] := by
  refine ⟨by simp, fun i hi => ?_⟩
  obtain rfl : i = 0 := by simp at hi; omega
  exact ⟨by rw [World.cell?_alloc_new]; rfl, World.frozen?_alloc_new ..⟩

/-- between the bits of a division: A by D, all bits above p are done -/
def DivSt (w : World) (A D la p : Nat) (v : Value) (wr : World) : Prop :=
  ∃ (ql ll dl : List Nat) (gl cl : Nat), v = .slice (some ⟨gl, 0, none⟩) (la + 1) cl ∧ la + 1 ≤ cl ∧ gl ≠ w.heap.size ∧ gl ≠ w.heap.size + 1 + 1 ∧ w.heap.size ≤ gl ∧ ql.length = la ∧ ll.length = la + 1 ∧ dl.length = la + 1 ∧
    Row wr w.heap.size ql ∧ Row wr gl ll ∧ Row wr (w.heap.size + 1 + 1) dl ∧ M5.Dig ql ∧ M5.Dig ll ∧ M5.Dig dl ∧ M5.val dl = D ∧ M5.val ql = A / p / D * p ∧ M5.val ll = A / p % D ∧ Below w.heap.size w wr

/-- in the midst of a bit: what is left is doubled, the next bit is added; it lies at block g -/
def MidSt (w : World) (A D la p g c : Nat) (W : World) : Prop :=
  ∃ (ql ll dl : List Nat), la + 1 ≤ c ∧ w.heap.size + 1 + 1 < g ∧ ql.length = la ∧ ll.length = la + 1 ∧ dl.length = la + 1 ∧
    Row W w.heap.size ql ∧ Row W g ll ∧ Row W (w.heap.size + 1 + 1) dl ∧ M5.Dig ql ∧ M5.Dig ll ∧ M5.Dig dl ∧ M5.val dl = D ∧ M5.val ql = A / (p * 2) / D * (p * 2) ∧ M5.val ll = 2 * (A / (p * 2) % D) + A / p % 2 ∧ Below w.heap.size w W

/-- the doubling is called -/
theorem div_twice {w : World} {A D la p : Nat} {v : Value} {wr : World} (h : DivSt w A D la (p * 2) v wr) (hla : la ≤ 40) (hD : 0 < D) (hDl : D < 65536 ^ la) :
    ∃ gl cl, v = .slice (some ⟨gl, 0, none⟩) (la + 1) cl ∧ la + 1 ≤ cl ∧
      Calls Try.prog 39 #[.slice (some ⟨gl, 0, none⟩) (la + 1) cl, .slice (some ⟨wr.heap.size, 0, none⟩) 1 1] (wr.alloc (.cells #[.int .i64 2] 3)) fun e w1 =>
        ∃ g c, e = .returned (.slice (some ⟨g, 0, none⟩) (la + 2) c) ∧ la + 2 ≤ c ∧ Below w.heap.size w w1 ∧
          (A / p % 2 = 0 → MidSt w A D la p g c w1) ∧
          (A / p % 2 = 1 → ∃ z : Nat, z ≤ 65534 ∧ w1.cell? ⟨g, 0, none⟩ = some (.int .i64 (z : Int)) ∧ w1.frozen? ⟨g, 0, none⟩ = false ∧ MidSt w A D la p g c (w1.setCell ⟨g, 0, none⟩ (.int .i64 ((z : Int) + 1)))) := by
  obtain ⟨ql, ll, dl, gl, cl, rfl, h1, h2, h3, h4, h5, h6, h7, h8, h9, h10, h11, h12, h13, h14, h15, h16, h17⟩ := h
  refine ⟨gl, cl, rfl, h1, ?_⟩
  have T := times_any (wr.alloc (.cells #[.int .i64 ((2 : Nat) : Int)] 3)) gl cl wr.heap.size 1 ll [2] (h9.alloc _) (row_lit wr 2) h12 (by intro y hy; simp at hy; omega) (by omega) (by simp) (by omega) (by simp)
  rw [h6, List.length_singleton] at T
  refine T.mono ?_
  rintro e w1 ⟨v1, l1, rfl, ⟨g1, c1, rfl, hc1, hg1, hr1, hb1⟩, hl1, hd1, hv1⟩
  have hR : A / (p * 2) % D < D := Nat.mod_lt _ hD
  have hval : M5.val l1 = 2 * (A / (p * 2) % D) := by
    rw [hv1, h16]
    show _ * (2 + 65536 * 0) = _
    rw [Nat.mul_zero, Nat.add_zero, Nat.mul_comm]
  have hcut : M5.val (l1.take (la + 1)) = 2 * (A / (p * 2) % D) := by
    rw [M6.val_cut l1 (la + 1) (by omega) ?_, hval]
    rw [hval, Nat.pow_succ]
    omega
  have hl2 : (l1.take (la + 1)).length = la + 1 := by rw [List.length_take]; omega
  have hr2 := hr1.take (la + 1)
  have hd2 := M5.dig_take hd1 (la + 1)
  have hbb : Below w.heap.size w w1 := bq_trans (bq_alloc h17 _) hb1
  have k8 := (h8.alloc (.cells #[.int .i64 ((2 : Nat) : Int)] 3)).keep hb1
  have k10 := (h10.alloc (.cells #[.int .i64 ((2 : Nat) : Int)] 3)).keep hb1
  have q10 := h10.lt
  have hg1' : wr.heap.size + 1 ≤ g1 := by simpa using hg1
  refine ⟨g1, c1, by rw [hl1], by omega, hbb, fun hb => ?_, fun hb => ?_⟩
  · exact ⟨ql, l1.take (la + 1), dl, by omega, by omega, h5, hl2, h7, k8, hr2, k10, h11, hd2, h13, h14, h15, by rw [hcut, hb, Nat.add_zero], hbb⟩
  · have ⟨i1, i2, i3⟩ := M6.val_inc (l1.take (la + 1)) hd2 (by omega) (by rw [hcut]; omega)
    refine ⟨M5.dg (l1.take (la + 1)) 0, by omega, hr2.cell (by omega), hr2.free (by omega), ?_⟩
    have r3 := hr2.set (i := 0) (by omega) (M5.dg (l1.take (la + 1)) 0 + 1)
    rw [show ((M5.dg (l1.take (la + 1)) 0 + 1 : Nat) : Int) = (M5.dg (l1.take (la + 1)) 0 : Int) + 1 by omega] at r3
    exact ⟨ql, (l1.take (la + 1)).set 0 (M5.dg (l1.take (la + 1)) 0 + 1), dl, by omega, by omega, h5, by rw [List.length_set]; exact hl2, h7, k8.far (by show g1 ≠ w.heap.size; omega) _, r3, k10.far (by show g1 ≠ w.heap.size + 1 + 1; omega) _, h11, i3, h13, h14, h15, by rw [i2, hcut, hb], hbb.setCell (by show w.heap.size ≤ g1; omega) _⟩

/-- the order is asked -/
theorem div_order {w : World} {A D la p g c : Nat} {W : World} (h : MidSt w A D la p g c W) (hla : la ≤ 40) :
    ∃ z : Int, (0 ≤ z ∧ D ≤ 2 * (A / (p * 2) % D) + A / p % 2 ∨ z < 0 ∧ 2 * (A / (p * 2) % D) + A / p % 2 < D) ∧
      Calls Try.prog 37 #[.slice (some ⟨g, 0, none⟩) (la + 1) c, .slice (some ⟨w.heap.size + 1 + 1, 0, none⟩) (la + 1) (la + 1)] W fun e w' => e = .returned (.int .i64 z) ∧ ∃ n, w' = W.drewN n := by
  obtain ⟨ql, ll, dl, h1, h2, h5, h6, h7, h8, h9, h10, h11, h12, h13, h14, h15, h16, h17⟩ := h
  have O := order_ref W g c (w.heap.size + 1 + 1) (la + 1) ll dl h9 h10 h12 h13 (by omega) (by omega) (by omega) (by omega)
  rw [h6] at O
  refine ⟨_, ?_, O⟩
  unfold ordB
  rw [h16, h14]
  generalize 2 * (A / (p * 2) % D) + A / p % 2 = L
  rcases Nat.lt_or_ge L D with hlt | hge
  · right; rw [if_pos hlt]; omega
  · left; rw [if_neg (by omega)]; split <;> omega

theorem twice_mul (x p : Nat) : 2 * x * p = x * (p * 2) := by rw [Nat.mul_comm 2, Nat.mul_assoc, Nat.mul_comm 2]

/-- what is left is below the divisor -/
theorem div_keep {w : World} {A D la p g c : Nat} {W : World} (h : MidSt w A D la p g c W) (hD : 0 < D) (hlt : 2 * (A / (p * 2) % D) + A / p % 2 < D) (nq : Nat) :
    DivSt w A D la p (.slice (some ⟨g, 0, none⟩) (la + 1) c) (W.drewN nq) := by
  obtain ⟨ql, ll, dl, h1, h2, h5, h6, h7, h8, h9, h10, h11, h12, h13, h14, h15, h16, h17⟩ := h
  obtain ⟨t1, t2⟩ := (M6.step A D p hD).2.2 hlt
  exact ⟨ql, ll, dl, g, c, rfl, h1, by omega, by omega, by omega, h5, h6, h7, h8.drewN nq, h9.drewN nq, h10.drewN nq, h11, h12, h13, h14, by rw [t1, h15, twice_mul], by rw [t2, h16], bq_drewN h17 nq⟩

/-- what is left is the divisor, or above it: it is taken off -/
theorem div_take {w : World} {A D la i m g c : Nat} {W : World} (h : MidSt w A D la (65536 ^ i * 2 ^ m) g c W) (hla : la ≤ 40) (hi : i < la) (hm : m ≤ 15) (hD : 0 < D)
    (hge : D ≤ 2 * (A / (65536 ^ i * 2 ^ m * 2) % D) + A / (65536 ^ i * 2 ^ m) % 2) (nq : Nat) :
    Calls Try.prog 40 #[.slice (some ⟨g, 0, none⟩) (la + 1) c, .slice (some ⟨w.heap.size + 1 + 1, 0, none⟩) (la + 1) (la + 1)] (W.drewN nq) fun e w3 =>
      ∃ (g3 c3 z : Nat), e = .returned (.slice (some ⟨g3, 0, none⟩) (la + 1) c3) ∧ z + 2 ^ m < 65536 ∧ w3.cell? ⟨w.heap.size, i, none⟩ = some (.int .i64 (z : Int)) ∧ w3.frozen? ⟨w.heap.size, i, none⟩ = false ∧
        ∀ t : Nat, t = 2 ^ m → DivSt w A D la (65536 ^ i * 2 ^ m) (.slice (some ⟨g3, 0, none⟩) (la + 1) c3) (w3.setCell ⟨w.heap.size, i, none⟩ (.int .i64 ((z : Int) + (t : Int)))) := by
  obtain ⟨ql, ll, dl, h1, h2, h5, h6, h7, h8, h9, h10, h11, h12, h13, h14, h15, h16, h17⟩ := h
  obtain ⟨t1, t2⟩ := (M6.step A D (65536 ^ i * 2 ^ m) hD).2.1 hge
  have M := minus_any (W.drewN nq) g c (w.heap.size + 1 + 1) (la + 1) ll dl (h9.drewN nq) (h10.drewN nq) h12 h13 (by omega) (by omega) (by omega) (by omega) (by omega) (by rw [h16, h14]; exact hge)
  rw [h6] at M
  refine M.mono ?_
  rintro e w3 ⟨v3, lm, rfl, ⟨g3, c3, rfl, hc3, hg3, hr3, hb3⟩, hl3, hd3, hv3⟩
  have hrm := M6.room ql i m (A / (65536 ^ i * 2 ^ m * 2) / D) h11 hm (by rw [h15, Nat.pow_succ, ← Nat.mul_assoc (65536 ^ i)])
  have y8 := (h8.drewN nq).keep hb3
  have y10 := (h10.drewN nq).keep hb3
  have q10 := h10.lt
  have q8 := h8.lt
  have hg3' : W.heap.size ≤ g3 := hg3
  refine ⟨g3, c3, M5.dg ql i, by rw [hl3], hrm, y8.cell (by omega), y8.free (by omega), fun t ht => ?_⟩
  rw [show (M5.dg ql i : Int) + (t : Int) = ((M5.dg ql i + t : Nat) : Int) by omega]
  have hs := M5.val_set ql i (M5.dg ql i + t) (by omega)
  rw [Nat.mul_add] at hs
  refine ⟨ql.set i (M5.dg ql i + t), lm, dl, g3, c3, rfl, by omega, by omega, by omega, by omega, by rw [List.length_set]; exact h5, hl3, h7, y8.set (by omega) _, hr3.far (by show w.heap.size ≠ g3; omega) _, y10.far (by show w.heap.size ≠ w.heap.size + 1 + 1; omega) _,
    M5.dig_set h11 _ _ (by rw [ht]; exact hrm), hd3, h13, h14, ?_, ?_, (bq_trans (bq_drewN h17 nq) hb3).setCell (Nat.le_refl _) _⟩
  · rw [t1, Nat.add_mul, Nat.one_mul, twice_mul, ← h15, ← ht]
    omega
  · rw [t2, hv3, h16, h14]

theorem div_bit (a : List Nat) (i m x t : Nat) (da : M5.Dig a) (hm : m ≤ 15) (hx : x = M5.dg a i) (ht : t = 2 ^ m) : x / t % 2 = M5.val a / (65536 ^ i * 2 ^ m) % 2 := by
  rw [hx, M6.dg_val a i da, ht, M6.bit_at _ m hm, Nat.div_div_eq_div_mul]
end Go.Proofs.Ytcfidibkihkndaa
