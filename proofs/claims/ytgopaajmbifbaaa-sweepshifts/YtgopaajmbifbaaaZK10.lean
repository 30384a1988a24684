import Derived.Test.YtgopaajmbifbaaaZK9
import Derived.Test.YtgopaajmbifbaaaZK0
import Derived.Test.YtgopaajmbifbaaaZK3
namespace Go.Proofs.Ytgopaajmbifbaaa
open Go.RowKit
set_option linter.unusedVariables false
set_option linter.unusedSimpArgs false
set_option maxRecDepth 100000
def sqL : List Sg := [⟨0, 0, 0, 64, 1, 0⟩, ⟨0, 64, 64, 64, 1, 0⟩, ⟨64, 64, 64, 0, 1, 0⟩, ⟨64, 0, 0, 0, 1, 0⟩]
theorem Blk.sgs {w : World} {b : Nat} {L : List Sg} {t : TypeId} (h : Blk w b (L.map sgC).flatten.toArray t) (hl : L.length ≤ 9223372036854775807) (c : Nat) : Sgs w (.slice (some ⟨b, 0, none⟩) L.length c) L := by
  refine ⟨some ⟨b, 0, none⟩, c, b, 0, rfl, hl, Or.inr ⟨rfl, h.lt⟩, fun i hi => ⟨sgC L[i], rfl, rfl, fun j u hj => ?_⟩⟩
  have hj6 : j < 6 := (List.getElem?_eq_some_iff.1 hj).1
  rw [h.cell, Nat.zero_add]
  have e := flat_at 6 (L.map sgC) (fun c hc => by obtain ⟨s, _, rfl⟩ := List.mem_map.1 hc; rfl) i (by simpa using hi) j hj6
  rw [List.getElem?_toArray, e, List.getElem_map]
  exact hj
set_option maxHeartbeats 2000000 in
theorem square_any (w : World) : Calls Try.prog 22 #[] w fun e w' => (∃ v, e = .returned v ∧ Sgs w' v sqL) ∧ Below w.heap.size w w' := by
  go_enter Try.func22, Try.ntmps22
  go_wp2_with fail
  go_ret
  refine ⟨⟨_, rfl, Blk.sgs (L := sqL) (t := 27) ?_ (by decide) 4⟩, bq_alloc (bq_alloc (bq_alloc (bq_alloc (bq_alloc (bq_refl _) _) _) _) _) _⟩
  rw [show (sqL.map sgC).flatten.toArray = #[.int .i64 0, .int .i64 0, .int .i64 0, .int .i64 64, .int .i64 1, .int .i64 0, .int .i64 0, .int .i64 64, .int .i64 64, .int .i64 64, .int .i64 1, .int .i64 0, .int .i64 64, .int .i64 64, .int .i64 64, .int .i64 0, .int .i64 1, .int .i64 0, .int .i64 64, .int .i64 0, .int .i64 0, .int .i64 0, .int .i64 1, .int .i64 0] from by kernel_rfl]
  have hB := blk_new ((((w.alloc (.cells #[.int .i64 0, .int .i64 0] 25)).alloc (.cells #[.int .i64 0, .int .i64 64] 25)).alloc (.cells #[.int .i64 64, .int .i64 64] 25)).alloc (.cells #[.int .i64 64, .int .i64 0] 25)) #[.int .i64 0, .int .i64 0, .int .i64 0, .int .i64 64, .int .i64 1, .int .i64 0, .int .i64 0, .int .i64 64, .int .i64 64, .int .i64 64, .int .i64 1, .int .i64 0, .int .i64 64, .int .i64 64, .int .i64 64, .int .i64 0, .int .i64 1, .int .i64 0, .int .i64 64, .int .i64 0, .int .i64 0, .int .i64 0, .int .i64 1, .int .i64 0] 27
  simp only [World.size_alloc] at hB
  exact hB
theorem sq_own : ∀ k : Fin 4, ∀ i : Fin 8, ownV sqL (16 * ((i : Nat) : Int) + 7) (16 * ((k : Nat) : Int) + 7) = if i.val < 4 then 1 else 0 := by decide +kernel
theorem cnR_congr (z z' : Nat → Int) (a : Nat) (st : Int) : ∀ n, (∀ j, j < n → z (a + j) = z' (a + j)) → cnR z a st n = cnR z' a st n
  | 0, _ => rfl
  | n + 1, h => by
    unfold cnR
    rw [cnR_congr z z' a st n fun j hj => h j (by omega), h n (by omega)]
theorem cov_congr (z z' : Nat → Int) (w x y : Nat) (st : Int) : ∀ n, (∀ k, k < n → ∀ j, j < 4 → z ((4 * y + k) * 4 * w + 4 * x + j) = z' ((4 * y + k) * 4 * w + 4 * x + j)) → cov z w x y st n = cov z' w x y st n
  | 0, _ => rfl
  | n + 1, h => by
    unfold cov
    rw [cov_congr z z' w x y st n fun k hk => h k (by omega), cnR_congr z z' _ st 4 (h n (by omega))]
theorem Blk.owns {w : World} {b n : Nat} {h : Nat → Int} (B : Blk w b (rowF n h) 3) (hb : ∀ i, i < n → 0 ≤ h i ∧ h i ≤ 255) : Ints w ((List.range n).map h) (some ⟨b, 0, none⟩) b 0 := by
  refine Blk.ints (t := 3) ?_ fun v hv => ?_
  · have e : iA ((List.range n).map h) = rowF n h := by simp [iA, rowF]
    rw [e]
    exact B
  · obtain ⟨i, hi, rfl⟩ := List.mem_map.1 hv
    have := hb i (List.mem_range.1 hi)
    omega
theorem zF_map (n : Nat) (h : Nat → Int) (i : Nat) (hi : i < n) : zF ((List.range n).map h) i = h i := by
  rw [zF_at _ _ (by simpa using hi)]
  simp
theorem owns_bd {h : Nat → Int} {w hh : Nat} {L : List Sg} (H : (∀ k : Nat, k < 4 * hh → ∀ i : Nat, i < 4 * w → h (4 * w * k + i) = (ownV L (16 * (i : Int) + 7) (16 * (k : Int) + 7) : Int))) (i : Nat) (hi : i < 4 * w * (4 * hh)) : 0 ≤ h i ∧ h i ≤ 255 := by
  have hw : 0 < 4 * w := by
    rcases Nat.eq_zero_or_pos (4 * w) with h0 | h0
    · rw [h0, Nat.zero_mul] at hi; omega
    · exact h0
  have h1 := H (i / (4 * w)) (Nat.div_lt_of_lt_mul hi) (i % (4 * w)) (Nat.mod_lt _ hw)
  rw [Nat.div_add_mod] at h1
  have h2 := ownV_le L (16 * ((i % (4 * w) : Nat) : Int) + 7) (16 * ((i / (4 * w) : Nat) : Int) + 7)
  omega
set_option maxHeartbeats 2000000 in
theorem awake17_any (w : World) : Calls Try.prog 11 #[] w fun e w' => e = .returned (.bool true) ∧ Below w.heap.size w w' := by
  have H0 : Hid (∀ v W, Sgs W v sqL → Calls Try.prog 18 #[v, .int .i64 2, .int .i64 1] W fun e w' => (∃ b h, e = .returned (.tuple #[.slice (some ⟨b, 0, none⟩) 32 32, .int .i64 0]) ∧ Blk w' b (rowF 32 h) 3 ∧ (∀ k : Nat, k < 4 * 1 → ∀ i : Nat, i < 4 * 2 → h (4 * 2 * k + i) = (ownV sqL (16 * (i : Int) + 7) (16 * (k : Int) + 7) : Int))) ∧ Below W.heap.size W w') := Lib.hid fun v W hW => owners_any sqL v 2 1 W hW (by decide) (by decide) ⟨by decide, by decide⟩ ⟨by decide, by decide⟩
  go_enter Try.func11, Try.ntmps11
  go_upto_region 2 with (go_big_may; first
    | (go_at_call 22; (with_reducible refine (square_any _).mono ?_); rintro e W1 ⟨⟨v1, rfl, hS1⟩, k1⟩; have Hw1 := k1; have HS1 := Lib.hid hS1; clear hS1; clear k1)
    | (go_at_call 18; (with_reducible refine (H0.out v1 W1 HS1.out).mono ?_); rintro e W2 ⟨⟨b2, h2, rfl, B2, hd2⟩, k2⟩; have Hw2 := bq_trans Hw1 k2; have HD2 := Lib.hid hd2; clear hd2; clear k2 Hw1))
  have I2 : Ints W2 ((List.range 32).map h2) (some ⟨b2, 0, none⟩) b2 0 := B2.owns fun i hi => owns_bd HD2.out i hi
  have hz : ∀ k, k < 4 → ∀ i, i < 8 → zF ((List.range 32).map h2) (8 * k + i) = if i < 4 then 1 else 0 := fun k hk i hi => by
    rw [zF_map 32 h2 _ (by omega)]
    have h3 := HD2.out k (by omega) i (by omega)
    have h4 := sq_own ⟨k, hk⟩ ⟨i, hi⟩
    rw [show 4 * 2 * k + i = 8 * k + i by omega] at h3
    rw [h3]
    rw [h4]
    split <;> rfl
  have q1 : cov (zF ((List.range 32).map h2)) 2 0 0 1 4 = 16 := by
    rw [cov_congr _ (fun i => if i % 8 < 4 then 1 else 0) 2 0 0 1 4 fun k hk j hj => by
      rw [show (4 * 0 + k) * 4 * 2 + 4 * 0 + j = 8 * k + j by omega, hz k hk j (by omega)]
      have : (8 * k + j) % 8 = j := by omega
      rw [this]]
    decide
  have q2 : cov (zF ((List.range 32).map h2)) 2 1 0 1 4 = 0 := by
    rw [cov_congr _ (fun i => if i % 8 < 4 then 1 else 0) 2 1 0 1 4 fun k hk j hj => by
      rw [show (4 * 0 + k) * 4 * 2 + 4 * 1 + j = 8 * k + (4 + j) by omega, hz k hk (4 + j) (by omega)]
      have : (8 * k + (4 + j)) % 8 = 4 + j := by omega
      rw [this]]
    decide
  have H1 : Hid (∀ W, Below W2.heap.size W2 W → Calls Try.prog 21 #[.slice (some ⟨b2, 0, none⟩) 32 32, .int .i64 2, .int .i64 1, .int .i64 0, .int .i64 0, .int .i64 1] W fun e w' => e = .returned (.int .i64 16) ∧ Below W.heap.size W w') := Lib.hid fun W hW => by
    have h5 := cover_yes ((List.range 32).map h2) b2 0 32 32 2 1 0 0 1 W (I2.keep hW) (by simp) (by omega) (by omega) (by omega) (by omega) (by omega) (by omega) (by omega) (by omega)
    rw [q1] at h5
    exact h5
  have H2 : Hid (∀ W, Below W2.heap.size W2 W → Calls Try.prog 21 #[.slice (some ⟨b2, 0, none⟩) 32 32, .int .i64 2, .int .i64 1, .int .i64 1, .int .i64 0, .int .i64 1] W fun e w' => e = .returned (.int .i64 0) ∧ Below W.heap.size W w') := Lib.hid fun W hW => by
    have h5 := cover_yes ((List.range 32).map h2) b2 0 32 32 2 1 1 0 1 W (I2.keep hW) (by simp) (by omega) (by omega) (by omega) (by omega) (by omega) (by omega) (by omega) (by omega)
    rw [q2] at h5
    exact h5
  have H3 : Hid (∀ v W, Sgs W v sqL → Calls Try.prog 17 #[v, .int .i64 0, .int .i64 7, .int .i64 7] W fun e w' => e = .returned (.int .i64 (-1)) ∧ Below W.heap.size W w') := Lib.hid fun v W hW => by
    have h5 := wound_any sqL v 0 7 7 W hW
    rw [show (if smpB 7 && smpB 7 then wnd sqL 0 7 7 else 0) = (-1 : Int) by decide +kernel] at h5
    exact h5
  clear hz q1 q2 I2 HD2 B2
  go_wp2_with (first
    | (go_at_call 21; (with_reducible refine (H1.out _ (bq_refl _)).mono ?_); rintro e W3 ⟨rfl, k3⟩; have Hw3 := bq_trans Hw2 k3; have Hx3 := bq_trans (bq_refl W2) k3; clear k3 Hw2)
    | (go_at_call 21; (with_reducible refine (H2.out _ Hx3).mono ?_); rintro e W4 ⟨rfl, k4⟩; have Hw4 := bq_trans Hw3 k4; have Hx4 := bq_trans Hx3 k4; clear k4 Hw3 Hx3)
    | (go_at_call 22; (with_reducible refine (square_any _).mono ?_); rintro e W5 ⟨⟨v3, rfl, hS3⟩, k5⟩; have Hw5 := bq_trans Hw4 k5; have Hx5 := bq_trans Hx4 k5; have HS3 := Lib.hid hS3; clear hS3; clear k5 Hw4 Hx4)
    | (go_at_call 17; (with_reducible refine (H3.out v3 _ HS3.out).mono ?_); rintro e W6 ⟨rfl, k6⟩; have Hw6 := bq_trans Hw5 k6; have Hx6 := bq_trans Hx5 k6; clear k6 Hw5 Hx5))
  go_ret
  exact ⟨rfl, Hw6⟩
end Go.Proofs.Ytgopaajmbifbaaa
namespace Go.Proofs.Ytgopaajmbifbaaa
open Go.RowKit
set_option linter.unusedVariables false
set_option linter.unusedSimpArgs false
set_option maxRecDepth 100000
instance : Inhabited Sg := ⟨⟨0, 0, 0, 0, 0, 0⟩⟩
section
variable {H : Type} {enc : TypeId × Value → H} {w : World} {base : Nat} {spare : Nat → Bool} {held : Bool}
theorem cell1_17 : Try.prog.cellsOf 3 = 1 := by kernel_rfl
theorem cellP_17 : Try.prog.cellsOf 25 = 2 := by kernel_rfl
theorem cellS_17 : Try.prog.cellsOf 27 = 6 := by kernel_rfl
theorem int_of17 {n : Nat} {v : Value} {y : DataW H × List MemPlace} (h : DataW.trod enc Try.prog w base spare held n 3 [v] = some y) : ∃ z, v = .int .i64 z := by
  obtain ⟨z, hz, _, hw⟩ := DataW.trod_int Try.underlying3 h
  simp only [List.cons.injEq, and_true] at hz
  exact ⟨z, hz⟩
theorem pt_of17 {n : Nat} {u v : Value} {y : DataW H × List MemPlace} (h : DataW.trod enc Try.prog w base spare held n 25 [u, v] = some y) : ∃ a b, u = .int .i64 a ∧ v = .int .i64 b := by
  obtain ⟨xs, m, _, _, _, hxl, hx⟩ := DataW.trod_struct Try.underlying25 h
  match xs, hxl with
  | [x0, x1], _ =>
    have g0 : DataW.trod enc Try.prog w base spare held m 3 (([u, v].drop 0).take (Try.prog.cellsOf 3)) = some x0 := hx 0 _ rfl
    have g1 : DataW.trod enc Try.prog w base spare held m 3 (([u, v].drop 1).take (Try.prog.cellsOf 3)) = some x1 := hx 1 _ rfl
    rw [cell1_17] at g0 g1
    obtain ⟨a, ha⟩ := int_of17 (v := u) g0
    obtain ⟨b, hb⟩ := int_of17 (v := v) g1
    exact ⟨a, b, ha, hb⟩
theorem sg_of {n : Nat} {cs : List Value} {y : DataW H × List MemPlace} (hl : cs.length = 6) (h : DataW.trod enc Try.prog w base spare held n 27 cs = some y) : ∃ s, cs = sgC s := by
  obtain ⟨xs, m, _, _, _, hxl, hx⟩ := DataW.trod_struct Try.underlying27 h
  match cs, hl with
  | [c0, c1, c2, c3, c4, c5], _ =>
    match xs, hxl with
    | [x0, x1, x2, x3], _ =>
      have g0 : DataW.trod enc Try.prog w base spare held m 25 (([c0, c1, c2, c3, c4, c5].drop 0).take (Try.prog.cellsOf 25)) = some x0 := hx 0 _ rfl
      have g1 : DataW.trod enc Try.prog w base spare held m 25 (([c0, c1, c2, c3, c4, c5].drop 2).take (Try.prog.cellsOf 25)) = some x1 := hx 1 _ rfl
      have g2 : DataW.trod enc Try.prog w base spare held m 3 (([c0, c1, c2, c3, c4, c5].drop 4).take (Try.prog.cellsOf 3)) = some x2 := hx 2 _ rfl
      have g3 : DataW.trod enc Try.prog w base spare held m 3 (([c0, c1, c2, c3, c4, c5].drop 5).take (Try.prog.cellsOf 3)) = some x3 := hx 3 _ rfl
      rw [cellP_17] at g0 g1
      rw [cell1_17] at g2 g3
      obtain ⟨a, b, rfl, rfl⟩ := pt_of17 (u := c0) (v := c1) g0
      obtain ⟨c, d, rfl, rfl⟩ := pt_of17 (u := c2) (v := c3) g1
      obtain ⟨e, rfl⟩ := int_of17 (v := c4) g2
      obtain ⟨f, rfl⟩ := int_of17 (v := c5) g3
      exact ⟨⟨a, b, c, d, e, f⟩, rfl⟩
theorem sgs_of {n : Nat} {sv : Value} {y : DataW H × List MemPlace} (h : DataW.trod enc Try.prog w base spare held n 22 [sv] = some y) : ∃ L, Sgs w sv L :=
  sl_of_trod (α := Sg) (R := fun _ cs s => cs = sgC s) Try.underlying22 cellS_17 (fun n cs y hl h => sg_of hl h) h (by omega)
end
def sumF (f : Nat → Int) : Nat → Int
  | 0 => 0
  | n + 1 => sumF f n + f n
def wv (L : List Sg) (x y st : Int) : Int := if smpB x && smpB y then wnd L st x y else 0
end Go.Proofs.Ytgopaajmbifbaaa
namespace Go.Proofs.Ytgopaajmbifbaaa.Dnw
open Go Go.RowKit Det
set_option linter.unusedVariables false
def Tells (P : Program) (ops : Array Oper) (W : World) (o : Oper) (v : Value) (a : Act) : Prop :=
  (Region.wanted o (yielded ops a.tmps) = true ∧ ∀ w, Below W.heap.size W w →
    (∃ w', (execOp a.eval o).run P w = .ok (.value v) w' ∧ Below w.heap.size w w') ∨
    (∃ f args w', (execOp a.eval o).run P w = .ok (.enter f args) w' ∧ Calls P f args w' fun e w'' => e = .returned v ∧ Below w.heap.size w w'')) ∨
  (Region.wanted o (yielded ops a.tmps) = false ∧ v = undef)
structure New (P : Program) (ops : Array Oper) (p s : Nat) (dp : Tmp) (T : TypeId) (n : Nat) (z : Array Value) : Prop where
  zero : ∀ w, (zeroValue T).run P w = .ok (.agg z) w
  size : (P.info? T).map (·.size) = some n
  zsize : z.size = n
  made : ∃ o, ops[p]? = some o ∧ o.op = .alloc T ∧ o.dst = some dp ∧ o.guard = none
  st : ∃ o y, ops[s]? = some o ∧ o.op = .store T (.tmp dp) y ∧ y ≠ .tmp dp ∧ o.dst = none ∧ o.guard = none ∧ ∃ e ∈ o.after, Region.binds .any e = true ∧ e.on = p
  look : ∀ (i : Nat) (o : Oper), ops[i]? = some o → i ≠ s → dp ∉ o.looksAt ops
def wpDet (P : Program) (ops : Array Oper) (Q : Exit → Act → World → Prop) (W : World) (p s : Nat) (dp : Tmp) (T : TypeId) (cs : Array Value) : Nat → List Oper → Act → Prop
  | _, [], a => ∀ w b, Below W.heap.size W w → Blk w b cs T → W.heap.size ≤ b → Q .normal (a.put (some dp) (.pointer (some ⟨b, 0, none⟩))) w
  | k, o :: rest, a => (k = p ∧ wpDet P ops Q W p s dp T cs (k + 1) rest (a.put o.dst undef)) ∨
    (k = s ∧ (∃ y, o.op = .store T (.tmp dp) y ∧ a.eval y = .agg cs) ∧ wpDet P ops Q W p s dp T cs (k + 1) rest (a.put o.dst undef)) ∨
    (k ≠ p ∧ k ≠ s ∧ ∃ v, Tells P ops W o v a ∧ wpDet P ops Q W p s dp T cs (k + 1) rest (a.put o.dst v))
section
variable {P : Program} {ops : Array Oper} {Q : Exit → Act → World → Prop} {W : World} {p s n : Nat} {dp : Tmp} {T : TypeId} {z cs : Array Value}
def Step (P : Program) (ops : Array Oper) (W : World) (p s : Nat) (T : TypeId) (dp : Tmp) (cs : Array Value) (j : Nat) (o : Oper) (v : Value) (c : Act) : Prop :=
  (j = p ∧ v = undef) ∨ (j = s ∧ v = undef ∧ ∃ y, o.op = .store T (.tmp dp) y ∧ c.eval y = .agg cs) ∨ (j ≠ p ∧ j ≠ s ∧ Tells P ops W o v c)
theorem ends (F : Fit .any ops) (a0 : Act) : ∀ (l : List Oper) (k : Nat) (a : Act) (V0 : Nat → Value), ops.toList.drop k = l → At ops a0 V0 (· < k) a → wpDet P ops Q W p s dp T cs k l a →
    ∃ (V : Nat → Value) (af : Act), (∀ i, i < k → V i = V0 i) ∧ (∀ w b, Below W.heap.size W w → Blk w b cs T → W.heap.size ≤ b → Q .normal (af.put (some dp) (.pointer (some ⟨b, 0, none⟩))) w) ∧ At ops a0 V (· < ops.size) af ∧
      ∀ j o, k ≤ j → ops[j]? = some o → ∃ c, At ops a0 V (· < j) c ∧ Step P ops W p s T dp cs j o (V j) c := by
  intro l
  induction l with
  | nil =>
    intro k a V0 hl hA h
    have h1 : ops.size ≤ k := by
      have := congrArg List.length hl
      simp at this
      omega
    refine ⟨V0, a, fun _ _ => rfl, h, ⟨hA.size, hA.defers, fun t ht => hA.old t fun i o _ ho => ht i o (Array.getElem?_eq_some_iff.1 ho).1 ho, fun i y d hi hy hd hlt => hA.told i y d (by omega) hy hd hlt⟩, fun j o hj ho => ?_⟩
    have := (Array.getElem?_eq_some_iff.1 ho).1
    omega
  | cons o l ih =>
    intro k a V0 hl hA h
    have hk : ops[k]? = some o := by
      have := congrArg List.head? hl
      simpa [List.head?_drop] using this
    have hl' : ops.toList.drop (k + 1) = l := by
      rw [← List.drop_drop, hl]; rfl
    have key : ∀ v : Value, Step P ops W p s T dp cs k o v a → wpDet P ops Q W p s dp T cs (k + 1) l (a.put o.dst v) → ∃ (V : Nat → Value) (af : Act), (∀ i, i < k → V i = V0 i) ∧ (∀ w b, Below W.heap.size W w → Blk w b cs T → W.heap.size ≤ b → Q .normal (af.put (some dp) (.pointer (some ⟨b, 0, none⟩))) w) ∧ At ops a0 V (· < ops.size) af ∧
        ∀ j o, k ≤ j → ops[j]? = some o → ∃ c, At ops a0 V (· < j) c ∧ Step P ops W p s T dp cs j o (V j) c := by
      intro v hv hrest
      have hA1 : At ops a0 (fun i => if i = k then v else V0 i) (· < k) a := hA.to fun i hi => (if_neg (by omega)).symm
      have hA2 := hA1.step F (E := (· < k + 1)) hk (fun i => by omega)
      have ek : (if k = k then v else V0 k) = v := if_pos rfl
      rw [ek] at hA2
      obtain ⟨V, af, g1, g2, g3, g4⟩ := ih (k + 1) _ _ hl' hA2 hrest
      have hVk : V k = v := (g1 k (by omega)).trans ek
      refine ⟨V, af, fun i hi => (g1 i (by omega)).trans (if_neg (by omega)), g2, g3, fun j y hj hy => ?_⟩
      by_cases hjk : j = k
      · subst hjk
        rw [hk] at hy
        cases hy
        exact ⟨a, hA1.to fun i hi => (g1 i (by omega)).symm, by rw [hVk]; exact hv⟩
      · exact g4 j y (by omega) hy
    rcases h with ⟨h1, h2⟩ | ⟨h1, h2, h3⟩ | ⟨h1, h2, v, h3, h4⟩
    · exact key undef (.inl ⟨h1, rfl⟩) h2
    · exact key undef (.inr (.inl ⟨h1, rfl, h2⟩)) h3
    · exact key v (.inr (.inr ⟨h1, h2, h3⟩)) h4
theorem same (F : Fit .any ops) {a0 b c : Act} {V V' : Nat → Value} {D E : Nat → Prop} (hb : At ops a0 V D b) (hc : At ops a0 V' E c) {j : Nat} {o : Oper} (ho : ops[j]? = some o)
    (hD : ∀ e ∈ o.after, Region.binds .any e = true → D e.on) (hE : ∀ e ∈ o.after, Region.binds .any e = true → E e.on)
    (nD : ∀ (i : Nat) (y : Oper), ops[i]? = some y → (∃ e ∈ y.after, Region.binds .any e = true ∧ e.on = j) → ¬ D i) (nE : ∀ (i : Nat) (y : Oper), ops[i]? = some y → (∃ e ∈ y.after, Region.binds .any e = true ∧ e.on = j) → ¬ E i) (t : Tmp) (ht : t ∈ o.looksAt ops)
    (hV : ∀ (i : Nat) (y : Oper), ops[i]? = some y → y.dst = some t → V i = V' i) : b.tmps[t]? = c.tmps[t]? := by
  by_cases hw : ∃ (i : Nat) (y : Oper), ops[i]? = some y ∧ y.dst = some t
  · obtain ⟨i, y, hy, hyd⟩ := hw
    have uniq : ∀ (i' : Nat) (y' : Oper), ops[i']? = some y' → y'.dst = some t → i' = i := fun i' y' hy' hd' => by
      apply Decidable.byContradiction
      intro hne
      exact F.once i' i y' y t hy' hy hne hyd hd'
    rcases F.looks j i o y t ho hy hyd ht with ⟨_, e, he, hbd, hon⟩ | ⟨_, hex⟩
    · have h1 := hD e he hbd
      have h2 := hE e he hbd
      rw [hon] at h1 h2
      by_cases hsz : t < a0.tmps.size
      · rw [hb.told i y t h1 hy hyd hsz, hc.told i y t h2 hy hyd hsz, hV i y hy hyd]
      · rw [Array.getElem?_eq_none (by rw [hb.size]; exact Nat.le_of_not_lt hsz), Array.getElem?_eq_none (by rw [hc.size]; exact Nat.le_of_not_lt hsz)]
    · rw [hb.old t fun i' y' hd' hy' hyt => nD i y hy hex (uniq i' y' hy' hyt ▸ hd'), hc.old t fun i' y' hd' hy' hyt => nE i y hy hex (uniq i' y' hy' hyt ▸ hd')]
  · rw [hb.old t fun i y _ hy hyt => hw ⟨i, y, hy, hyt⟩, hc.old t fun i y _ hy hyt => hw ⟨i, y, hy, hyt⟩]
theorem Tells.of_same {o : Oper} {v : Value} {a a' : Act} (h : Tells P ops W o v a) (he : execOp a'.eval o = execOp a.eval o) (hw : Region.wanted o (yielded ops a'.tmps) = Region.wanted o (yielded ops a.tmps)) : Tells P ops W o v a' := by
  unfold Tells at *
  rw [he, hw]
  exact h
theorem Tells.wpOp {i : Nat} {o : Oper} {v : Value} {a : Act} {w : World} {K : Act → World → Prop} (hi : ops[i]? = some o) (hy : Tells P ops W o v a) (hS : Below W.heap.size W w) (h : ∀ w', Below w.heap.size w w' → K (a.put o.dst v) w') : wpOp P ops Q i K a w := by
  unfold Go.wpOp
  simp only [hi]
  rcases hy with ⟨hw, hv⟩ | ⟨hw, rfl⟩
  · rw [if_pos hw]
    refine .inl ?_
    unfold Oper.wp
    rcases hv w hS with ⟨w', hr, hs⟩ | ⟨f, args, w', hr, hc⟩
    · rw [hr]; exact h w' hs
    · rw [hr]
      refine Calls.mono hc fun e w'' he => ?_
      obtain ⟨rfl, hs⟩ := he
      exact h w'' hs
  · rw [if_neg (by rw [hw]; decide)]
    exact h w (bq_refl w)
def vq (V : Nat → Value) (p : Nat) (q : Value) (i : Nat) : Value := if i = p then q else V i
def Inv (ops : Array Oper) (a0 : Act) (V : Nat → Value) (W : World) (p s : Nat) (T : TypeId) (z cs : Array Value) (listed : Array Bool) (b : Act) (w : World) : Prop :=
  ∃ q : Value, At ops a0 (vq V p q) (fun i => listed[i]? = some true) b ∧ Below W.heap.size W w ∧
    (listed[p]? = some true → ∃ g, q = .pointer (some ⟨g, 0, none⟩) ∧ W.heap.size ≤ g ∧ Blk w g (if listed[s]? = some true then cs else z) T)
theorem anyOrder (F : Fit .any ops) (N : New P ops p s dp T n z) (hcn : cs.size = n) (h1 : cs.all (·.oneCell') = true) {a0 af : Act} {V : Nat → Value} (hdp : dp < a0.tmps.size)
    (hQ : ∀ w b, Below W.heap.size W w → Blk w b cs T → W.heap.size ≤ b → Q .normal (af.put (some dp) (.pointer (some ⟨b, 0, none⟩))) w) (hf : At ops a0 V (· < ops.size) af)
    (hT : ∀ (j : Nat) (o : Oper), ops[j]? = some o → ∃ c, At ops a0 V (· < j) c ∧ Step P ops W p s T dp cs j o (V j) c) :
    ∀ (fuel : Nat) (listed : Array Bool) (b : Act) (w : World), listed.size = ops.size → listed.toList.count false ≤ fuel → Inv ops a0 V W p s T z cs listed b w →
      (∀ (j : Nat) (o : Oper), ops[j]? = some o → listed[j]? = some true → ∀ e ∈ o.after, Region.binds .any e = true → listed[e.on]? = some true) → wpAny P .any ops Q fuel listed b w := by
  obtain ⟨op, hp, hpo, hpd, hpg⟩ := N.made
  obtain ⟨os, y, hs, hso, hsy, hsd, hsg, esp, hesp, hbsp, hosp⟩ := N.st
  have hps : p ≠ s := by
    intro e
    subst e
    rw [hp] at hs
    cases hs
    rw [hpd] at hsd
    cases hsd
  have done : ∀ (listed : Array Bool) (b : Act) (w : World), listed.size = ops.size → Inv ops a0 V W p s T z cs listed b w → Region.ready .any ops listed = [] → Q .normal b w := by
    intro listed b w hl hI hr
    have all := all_listed F hl hr
    obtain ⟨q, hA, hB, hq⟩ := hI
    have hpl := (Array.getElem?_eq_some_iff.1 hp).1
    obtain ⟨g, rfl, hg, hK⟩ := hq (all p hpl)
    rw [if_pos (all s (Array.getElem?_eq_some_iff.1 hs).1)] at hK
    have hA2 : At ops a0 (vq V p (.pointer (some ⟨g, 0, none⟩))) (· < ops.size) b := hA.iff fun i => by
      constructor
      · intro hi
        have := (Array.getElem?_eq_some_iff.1 hi).1
        omega
      · intro hi; exact all i hi
    have e : b = af.put (some dp) (.pointer (some ⟨g, 0, none⟩)) := by
      have ht : b.tmps = (af.put (some dp) (.pointer (some ⟨g, 0, none⟩))).tmps := Array.ext_getElem? fun t => by
        by_cases htd : dp = t
        · subst htd
          rw [put_at (by rw [hf.size]; exact hdp), hA2.told p op dp hpl hp hpd hdp, vq, if_pos rfl]
        · rw [put_get (by simpa using htd)]
          by_cases hw : ∃ (i : Nat) (y : Oper), ops[i]? = some y ∧ y.dst = some t
          · obtain ⟨i, y, hy, hyd⟩ := hw
            have hi := (Array.getElem?_eq_some_iff.1 hy).1
            by_cases hsz : t < a0.tmps.size
            · rw [hA2.told i y t hi hy hyd hsz, hf.told i y t hi hy hyd hsz, vq, if_neg]
              intro hip
              subst hip
              rw [hp] at hy
              cases hy
              rw [hpd] at hyd
              cases hyd
              exact htd rfl
            · rw [Array.getElem?_eq_none (by rw [hA2.size]; exact Nat.le_of_not_lt hsz), Array.getElem?_eq_none (by rw [hf.size]; exact Nat.le_of_not_lt hsz)]
          · rw [hA2.old t fun i y _ hy hyt => hw ⟨i, y, hy, hyt⟩, hf.old t fun i y _ hy hyt => hw ⟨i, y, hy, hyt⟩]
      have hd := (hA2.defers.trans hf.defers.symm).trans (put_df af (some dp) (.pointer (some ⟨g, 0, none⟩))).symm
      generalize af.put (some dp) (.pointer (some ⟨g, 0, none⟩)) = c at ht hd ⊢
      cases b; cases c
      simp only at ht hd
      rw [ht, hd]
    rw [e]
    exact hQ w g hB hK hg
  intro fuel
  induction fuel with
  | zero =>
    intro listed b w hl hc hI hcl
    have hr : Region.ready .any ops listed = [] := none_ready fun j hj => by
      have h2 : j < listed.size := by omega
      rw [Array.getElem?_eq_getElem h2]
      cases hc2 : listed[j] with
      | true => rfl
      | false =>
        have : false ∈ listed.toList := by rw [← hc2]; exact Array.getElem_mem_toList h2
        have := List.count_pos_iff.2 this
        omega
    exact ⟨hr, done listed b w hl hI hr⟩
  | succ fuel ih =>
    intro listed b w hl hc hI hcl
    refine ⟨fun hr => done listed b w hl hI hr, fun i hi => ?_⟩
    obtain ⟨h0, o, ho, hall⟩ := mem_ready.1 hi
    have hlt : i < listed.size := by rw [hl]; exact (Array.getElem?_eq_some_iff.1 ho).1
    have hif : listed[i]? = some false := by
      rw [Array.getElem?_eq_getElem hlt]
      rw [Array.getD_eq_getD_getElem?, Array.getElem?_eq_getElem hlt] at h0
      have h0 : listed[i] = false := h0
      rw [h0]
    have hall' : ∀ e ∈ o.after, Region.binds .any e = true → listed[e.on]? = some true := fun e he hbd => by
      have h1 := hall e he hbd
      rw [Array.getD_eq_getD_getElem?] at h1
      cases hq : listed[e.on]? with
      | none => rw [hq] at h1; cases h1
      | some q => rw [hq] at h1; exact congrArg some h1
    have hlist : ∀ k : Nat, (listed.setIfInBounds i true)[k]? = some true ↔ listed[k]? = some true ∨ k = i := fun k => by
      by_cases hki : k = i
      · subst hki
        simp [hlt]
      · rw [Array.getElem?_setIfInBounds_ne (Ne.symm hki)]
        exact ⟨Or.inl, fun h => h.resolve_right hki⟩
    have next : ∀ (b' : Act) (w' : World), Inv ops a0 V W p s T z cs (listed.setIfInBounds i true) b' w' → wpAny P .any ops Q fuel (listed.setIfInBounds i true) b' w' := fun b' w' hI' => ih _ _ w' (by simp [hl]) (by
      have := count_set (l := listed.toList) (i := i) (by rw [Array.getElem?_toList]; exact hif)
      rw [Array.toList_setIfInBounds]
      omega) hI' (fun k y hy hk e he hbd => (hlist _).2 (Or.inl (by
        rcases (hlist k).1 hk with hk | rfl
        · exact hcl k y hy hk e he hbd
        · rw [ho] at hy
          cases hy
          exact hall' e he hbd)))
    obtain ⟨q, hA, hB, hq⟩ := hI
    obtain ⟨c, hcA, hv⟩ := hT i o ho
    have sm : ∀ t ∈ o.looksAt ops, t ≠ dp → b.tmps[t]? = c.tmps[t]? := fun t ht hne => same F hA hcA ho hall' (fun e he hbd => F.back i o ho e he hbd) (fun k y hy ⟨e, he, hbd, hon⟩ hk => by
      have := hcl k y hy hk e he hbd
      rw [hon, hif] at this
      cases this) (fun k y hy ⟨e, he, hbd, hon⟩ hk => by
      have := F.back k y hy e he hbd
      omega) t ht fun k y hy hyd => by
        rw [vq, if_neg]
        intro hkp
        subst hkp
        rw [hp] at hy
        cases hy
        rw [hpd] at hyd
        cases hyd
        exact hne rfl
    rcases hv with ⟨hip, hv⟩ | ⟨his, hv, y', hyo, hye⟩ | ⟨hip, his, hv⟩
    · -- the block is made
      subst hip
      rw [hp] at ho
      cases ho
      unfold Go.wpOp
      simp only [hp]
      rw [if_pos (by simp [Region.wanted, hpg])]
      refine .inl ?_
      unfold Oper.wp execOp
      simp only [hpo, Instr.alloc, Sem.run_bind, N.zero, Result.andThen_ok, newVar, newRow, Value.cells]
      have hns : listed[s]? ≠ some true := fun h => by
        have := hcl s os hs h esp hesp hbsp
        rw [hosp, hif] at this
        cases this
      refine next _ _ ⟨.pointer (some ⟨w.heap.size, 0, none⟩), ?_, hB.alloc hB.size _, fun _ => ⟨w.heap.size, rfl, hB.size, ?_⟩⟩
      · have hA1 : At ops a0 (vq V i (.pointer (some ⟨w.heap.size, 0, none⟩))) (fun k => listed[k]? = some true) b := hA.to fun k hk => by
          have hki : k ≠ i := fun h => by subst h; rw [hif] at hk; cases hk
          rw [vq, vq, if_neg hki, if_neg hki]
        have := hA1.step F (E := fun k => (listed.setIfInBounds i true)[k]? = some true) hp hlist
        rw [show vq V i (.pointer (some ⟨w.heap.size, 0, none⟩)) i = .pointer (some ⟨w.heap.size, 0, none⟩) from if_pos rfl] at this
        exact this
      · rw [if_neg (by rw [Array.getElem?_setIfInBounds_ne hps]; exact hns)]
        exact blk_new w z T
    · -- the store
      subst his
      rw [hs] at ho
      cases ho
      have hpl : listed[p]? = some true := hosp ▸ hall' esp hesp hbsp
      obtain ⟨g, rfl, hg, hK⟩ := hq hpl
      rw [if_neg (by rw [hif]; decide)] at hK
      have eyy : y' = y := by rw [hso] at hyo; cases hyo; rfl
      subst eyy
      have ex : b.eval (.tmp dp) = .pointer (some ⟨g, 0, none⟩) := by
        have := hA.told p op dp hpl hp hpd hdp
        rw [vq, if_pos rfl] at this
        show b.tmps.getD dp undef = _
        rw [Array.getD_eq_getD_getElem?, this]; rfl
      have ey : b.eval y' = .agg cs := by
        rw [← hye]
        refine eval_same fun t ht => ?_
        subst ht
        exact sm t (List.mem_append_left _ (List.mem_filterMap.2 ⟨.tmp t, by rw [hso]; simp [Op.operands], rfl⟩)) fun h => hsy (by rw [h])
      unfold Go.wpOp
      simp only [hs]
      rw [if_pos (by simp [Region.wanted, hsg])]
      refine .inl ?_
      unfold Oper.wp execOp
      simp only [hso, ex, ey, Instr.storeAt, Instr.sureAddr, Sem.run_bind, Sem.run_pure, Result.andThen_ok, run_storeVar_row w g T T z cs hK (by rw [N.size, hcn]) (by rw [N.zsize, hcn]) h1]
      have ht := turned_row w g cs
      refine next _ _ ⟨.pointer (some ⟨g, 0, none⟩), ?_, ht.below hB hg, fun _ => ⟨g, rfl, hg, ?_⟩⟩
      · have := hA.step F (E := fun k => (listed.setIfInBounds i true)[k]? = some true) hs hlist
        rw [show vq V p (.pointer (some ⟨g, 0, none⟩)) i = undef by rw [vq, if_neg (Ne.symm hps)]; exact hv] at this
        exact this
      · rw [if_pos (by simp [hlt])]
        exact hK.row cs
    · -- another one
      have hne : dp ∉ o.looksAt ops := N.look i o ho his
      have sm' : ∀ t ∈ o.looksAt ops, b.tmps[t]? = c.tmps[t]? := fun t ht => sm t ht fun h => hne (h ▸ ht)
      refine (hv.of_same (exec_same (fun cs b => F.sel i o cs b ho) sm') (wanted_same sm')).wpOp ho hB fun w' hw' => next _ _ ⟨q, ?_, hB.trans (hw'.mono hB.size), fun h => ?_⟩
      · have := hA.step F (E := fun k => (listed.setIfInBounds i true)[k]? = some true) ho hlist
        rw [show vq V p q i = V i from if_neg hip] at this
        exact this
      · rw [Array.getElem?_setIfInBounds_ne hip] at h
        obtain ⟨g, e1, e2, e3⟩ := hq h
        refine ⟨g, e1, e2, ?_⟩
        rw [Array.getElem?_setIfInBounds_ne his]
        exact e3.keep hw'
end
end Go.Proofs.Ytgopaajmbifbaaa.Dnw
