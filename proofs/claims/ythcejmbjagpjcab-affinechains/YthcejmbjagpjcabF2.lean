import Derived.Test.YthcejmbjagpjcabF1
/- Layer 7: whether rectangles, matrices, changes and colours are right; the program's. -/
namespace Go.Proofs.Ythcejmbjagpjcab
open Go.RowKit
set_option linter.unusedVariables false

def rectOk (l r t b : Int) : Bool := [l, r, t, b].all (nr 1048576) && decide (l ≤ r) && decide (t ≤ b)
def matOk (a b c d x y : Int) : Bool := [a, b, c, d].all (nr 4194304) && [x, y].all (nr 1048576)
def cxOk (m d : List Int) : Bool := m.all (nr 512) && d.all (nr 255)
def rgbaOk (r g b a : Int) : Bool := [r, g, b, a].all (nr 255) && decide (0 ≤ r) && decide (0 ≤ g) && decide (0 ≤ b) && decide (0 ≤ a)
/-- it fits an int -/
def I64 (v : Int) : Prop := -9223372036854775808 ≤ v ∧ v ≤ 9223372036854775807
theorem i64_2 {x y : Int} (hx : I64 x) (hy : I64 y) : ∀ v ∈ [x, y], -9223372036854775808 ≤ v ∧ v ≤ 9223372036854775807 := by
  intro v hv
  simp only [List.mem_cons, List.not_mem_nil, or_false] at hv
  rcases hv with rfl | rfl
  · exact hx
  · exact hy
theorem i64_4 {x y z u : Int} (hx : I64 x) (hy : I64 y) (hz : I64 z) (hu : I64 u) : ∀ v ∈ [x, y, z, u], -9223372036854775808 ≤ v ∧ v ≤ 9223372036854775807 := by
  intro v hv
  simp only [List.mem_cons, List.not_mem_nil, or_false] at hv
  rcases hv with rfl | rfl | rfl | rfl
  · exact hx
  · exact hy
  · exact hz
  · exact hu
theorem near4 (m x y z u : Int) (hx : I64 x) (hy : I64 y) (hz : I64 z) (hu : I64 u) (m0 : 0 ≤ m) (m1 : m ≤ 1000000000) (q : Bool) (hq : [x, y, z, u].all (nr m) = q) (b : Nat) (w : World) (B : Blk w b (iA [x, y, z, u]) 3) :
    Calls Try.prog 16 #[.int .i64 m, .slice (some ⟨b, 0, none⟩) 4 4] w fun e w' => e = .returned (.bool q) ∧ w = w' := by
  rw [← hq]
  exact near_list [x, y, z, u] m _ b 0 4 w (by simp) m0 m1 (Lib.hid (B.ints (i64_4 hx hy hz hu)))
theorem near2 (m x y : Int) (hx : I64 x) (hy : I64 y) (m0 : 0 ≤ m) (m1 : m ≤ 1000000000) (q : Bool) (hq : [x, y].all (nr m) = q) (b : Nat) (w : World) (B : Blk w b (iA [x, y]) 3) :
    Calls Try.prog 16 #[.int .i64 m, .slice (some ⟨b, 0, none⟩) 2 2] w fun e w' => e = .returned (.bool q) ∧ w = w' := by
  rw [← hq]
  exact near_list [x, y] m _ b 0 2 w (by simp) m0 m1 (Lib.hid (B.ints (i64_2 hx hy)))
set_option maxHeartbeats 1000000 in
theorem rightmatrix_any (a b c d x y : Int) (w : World) (ha : I64 a) (hb : I64 b) (hc : I64 c) (hd : I64 d) (hx : I64 x) (hy : I64 y) :
    Calls Try.prog 8 #[.agg #[.int .i64 a, .int .i64 b, .int .i64 c, .int .i64 d, .int .i64 x, .int .i64 y]] w fun e w' => e = .returned (.bool (matOk a b c d x y)) ∧ Below w.heap.size w w' := by
  obtain ⟨q, hq⟩ : ∃ q, [a, b, c, d].all (nr 4194304) = q := ⟨_, rfl⟩
  obtain ⟨p, hp⟩ : ∃ p, [x, y].all (nr 1048576) = p := ⟨_, rfl⟩
  have HN := Lib.hid (fun w g B => near4 4194304 a b c d ha hb hc hd (by omega) (by omega) q hq g w B)
  have HP := Lib.hid (fun w g B => near2 1048576 x y hx hy (by omega) (by omega) p hp g w B)
  have HR : Hid (matOk a b c d x y = (q && p)) := Lib.hid (by unfold matOk; rw [hq, hp])
  rw [HR.out]
  clear hq hp ha hb hc hd hx hy HR
  cases q
  · go_enter Try.func8, Try.ntmps8
    go_wp2_with (first
      | (refine wl_box 25 _ _ rfl rfl rfl ?_; intro W0 b0 B0 l0 k0; have c0 : W0.cell? ⟨b0, 0, none⟩ = some (.int .i64 a) := B0.cell 0; have c1 : W0.cell? ⟨b0, 1, none⟩ = some (.int .i64 b) := B0.cell 1; have c2 : W0.cell? ⟨b0, 2, none⟩ = some (.int .i64 c) := B0.cell 2; have c3 : W0.cell? ⟨b0, 3, none⟩ = some (.int .i64 d) := B0.cell 3; have c4 : W0.cell? ⟨b0, 4, none⟩ = some (.int .i64 x) := B0.cell 4; have c5 : W0.cell? ⟨b0, 5, none⟩ = some (.int .i64 y) := B0.cell 5)
      | (refine wlg_slice 49 3 4 _ _ (ints4_run a b c d) _ rfl rfl rfl ?_; intro W1 b1 B1 l1 k1)
      | (go_at_call 16; refine (HN.out _ _ B1).mono ?_; rintro e w2 ⟨rfl, rfl⟩))
    go_ret; exact ⟨ret_bool rfl, bq_trans k0 k1⟩
  · go_enter Try.func8, Try.ntmps8
    go_wp2_with (first
      | (refine wl_box 25 _ _ rfl rfl rfl ?_; intro W0 b0 B0 l0 k0; have c0 : W0.cell? ⟨b0, 0, none⟩ = some (.int .i64 a) := B0.cell 0; have c1 : W0.cell? ⟨b0, 1, none⟩ = some (.int .i64 b) := B0.cell 1; have c2 : W0.cell? ⟨b0, 2, none⟩ = some (.int .i64 c) := B0.cell 2; have c3 : W0.cell? ⟨b0, 3, none⟩ = some (.int .i64 d) := B0.cell 3; have c4 : W0.cell? ⟨b0, 4, none⟩ = some (.int .i64 x) := B0.cell 4; have c5 : W0.cell? ⟨b0, 5, none⟩ = some (.int .i64 y) := B0.cell 5)
      | (refine wlg_slice 49 3 4 _ _ (ints4_run a b c d) _ rfl rfl rfl ?_; intro W1 b1 B1 l1 k1; have B2 := B0.keep k1; have d0 : W1.cell? ⟨b0, 0, none⟩ = some (.int .i64 a) := B2.cell 0; have d1 : W1.cell? ⟨b0, 1, none⟩ = some (.int .i64 b) := B2.cell 1; have d2 : W1.cell? ⟨b0, 2, none⟩ = some (.int .i64 c) := B2.cell 2; have d3 : W1.cell? ⟨b0, 3, none⟩ = some (.int .i64 d) := B2.cell 3; have d4 : W1.cell? ⟨b0, 4, none⟩ = some (.int .i64 x) := B2.cell 4; have d5 : W1.cell? ⟨b0, 5, none⟩ = some (.int .i64 y) := B2.cell 5)
      | (refine wlg_slice 49 3 2 _ _ (ints2_run x y) _ rfl rfl rfl ?_; intro W3 b3 B3 l3 k3)
      | (go_at_call 16; refine (HP.out _ _ B3).mono ?_; rintro e w4 ⟨rfl, rfl⟩)
      | (go_at_call 16; refine (HN.out _ _ B1).mono ?_; rintro e w2 ⟨rfl, rfl⟩))
    go_ret; exact ⟨ret_bool (by simp), bq_trans (bq_trans k0 k1) k3⟩
theorem run_min4 {P : Program} (w : World) (ts : Array TypeId) (t : TypeId) (k k1 k2 k3 : IntKind) (x y z u : Int) :
    (Builtin.min_ ts t #[.int k x, .int k1 y, .int k2 z, .int k3 u]).run P w = .ok (.int k (min (min (min x y) z) u)) w := by
  have e : ∀ x y : Int, (if y < x then y else x) = min x y := by
    intro x y
    rw [Int.min_def]
    split <;> split <;> omega
  simp [Builtin.min_, Builtin.min2, e]
theorem run_max4 {P : Program} (w : World) (ts : Array TypeId) (t : TypeId) (k k1 k2 k3 : IntKind) (x y z u : Int) :
    (Builtin.max_ ts t #[.int k x, .int k1 y, .int k2 z, .int k3 u]).run P w = .ok (.int k (max (max (max x y) z) u)) w := by
  have e : ∀ x y : Int, (if x < y then y else x) = max x y := by
    intro x y
    rw [Int.max_def]
    split <;> split <;> omega
  simp [Builtin.max_, Builtin.max2, e]
end Go.Proofs.Ythcejmbjagpjcab
