import Derived.Test.YtffcfcgkpebdoaaZV0
import Derived.BigRegion
import Derived.Deep.RegionHeld
import Derived.Deep.MidRow
import Derived.Lib.MinMax
import Derived.Shelf.Strings.OnBuilder
namespace Go.Proofs.Ytffcfcgkpebdoaa
open Go.RowKit
set_option linter.unusedVariables false
set_option linter.unusedSimpArgs false
set_option maxRecDepth 100000
theorem szEr12 : (Try.prog.info? 25).map (·.size) = some 1 := by kernel_rfl
theorem szRd12 : (Try.prog.info? 52).map (·.size) = some 2 := by kernel_rfl
theorem szRw12 : (Try.prog.info? 23).map (·.size) = some 2 := by kernel_rfl
theorem zeRw12 (w : World) : (zeroValue 23).run Try.prog w = .ok (.agg #[.int .i64 0, .string ⟨#[]⟩]) w := Try.zeroValue23 w
theorem but_refl12 (p q : Nat) (w : World) : But p q w w := ⟨rfl, rfl, rfl, Nat.le_refl _, fun _ _ _ _ => rfl⟩
theorem but_t12 {p : Nat} {w w' : World} (T : Turned p w w') : But p p w w' := ⟨T.os, T.tape, T.output, Nat.le_of_eq T.size.symm, fun i _ h _ => T.block i h⟩
theorem but_tr12 {p : Nat} {a b c : World} (h : But p p a b) (k : But p p b c) : But p p a c :=
  ⟨k.os.trans h.os, k.tape.trans h.tape, k.output.trans h.output, Nat.le_trans h.size k.size, fun i hi h1 h2 => (k.block i (Nat.lt_of_lt_of_le hi h.size) h1 h2).trans (h.block i hi h1 h2)⟩
theorem number12_ok (xs ys : ByteArray) (xa ya ye n : Int) (v : Int) (bp : Nat) (w : World) (hx : Blk w bp #[.string xs, .int .i64 xa, .int .i64 0] 54)
    (HP : Hid (∀ W, Calls Try.prog 25 #[.agg #[.string xs, .int .i64 xa], .int .i64 n] W fun e w' => e = .returned (.tuple #[.int .i64 v, .agg #[.string ys, .int .i64 ya], .int .i64 ye]) ∧ Below W.heap.size W w')) :
    Calls Try.prog 20 #[.pointer (some ⟨bp, 0, none⟩), .int .i64 n] w fun e w' => e = .returned (.int .i64 v) ∧ Blk w' bp #[.string ys, .int .i64 ya, .int .i64 ye] 54 ∧ But bp bp w w' := by
  have d0 : w.cell? ⟨bp, 0, none⟩ = some (.string xs) := hx.cell 0
  have d1 : w.cell? ⟨bp, 1, none⟩ = some (.int .i64 xa) := hx.cell 1
  have d2 : w.cell? ⟨bp, 2, none⟩ = some (.int .i64 0) := hx.cell 2
  go_enter Try.func20, Try.ntmps20
  go_wp2_with (first
    | (go_at_call 25; (with_reducible refine (HP.out _).mono ?_); rintro e W1 ⟨rfl, k1⟩; have B1 := hx.keep k1; have b1 : But bp bp w W1 := But.of k1; clear k1 hx d0 d1 d2)
    | (refine wl_putAt 52 _ _ rfl rfl bp 0 rfl #[.string ys, .int .i64 ya] rfl szRd12 (by kernel_rfl) _ _ B1 (by decide : 0 + 2 ≤ 3) #[.string ys, .int .i64 ya, .int .i64 0] (by kernel_rfl) ?_; intro W2 B2 T2; have b2 := but_tr12 b1 (but_t12 T2); clear T2 B1 b1)
    | (refine wl_set 25 _ _ rfl rfl bp 2 rfl (.int .i64 ye) rfl rfl szEr12 _ _ B2 (by decide : 2 < 3) ?_; intro W3 B3 T3; have b3 := but_tr12 b2 (but_t12 T3); clear T3 B2 b2))
  go_ret
  exact ⟨rfl, B3, b3⟩
theorem bytes12_err (xs : ByteArray) (xa xe n : Int) (bp : Nat) (w : World) (hx : Blk w bp #[.string xs, .int .i64 xa, .int .i64 xe] 54) (he : xe ≠ 0) :
    Calls Try.prog 21 #[.pointer (some ⟨bp, 0, none⟩), .int .i64 n] w fun e w' => e = .returned (.string ⟨#[]⟩) ∧ Blk w' bp #[.string xs, .int .i64 xa, .int .i64 xe] 54 ∧ But bp bp w w' := by
  have c2 : w.cell? ⟨bp, 2, none⟩ = some (.int .i64 xe) := hx.cell 2
  have q : (xe == 0) = false := beq_eq_false_iff_ne.2 he
  have HX := Lib.hid hx
  clear hx he
  go_enter Try.func21, Try.ntmps21
  go_wp2
  go_ret
  exact ⟨rfl, HX.out, but_refl12 _ _ _⟩
theorem bytes12_ok (xs ys : ByteArray) (xa ya ye n : Int) (v : ByteArray) (bp : Nat) (w : World) (hx : Blk w bp #[.string xs, .int .i64 xa, .int .i64 0] 54)
    (HP : Hid (∀ W, Calls Try.prog 26 #[.agg #[.string xs, .int .i64 xa], .int .i64 n] W fun e w' => e = .returned (.tuple #[.string v, .agg #[.string ys, .int .i64 ya], .int .i64 ye]) ∧ Below W.heap.size W w')) :
    Calls Try.prog 21 #[.pointer (some ⟨bp, 0, none⟩), .int .i64 n] w fun e w' => e = .returned (.string v) ∧ Blk w' bp #[.string ys, .int .i64 ya, .int .i64 ye] 54 ∧ But bp bp w w' := by
  have d0 : w.cell? ⟨bp, 0, none⟩ = some (.string xs) := hx.cell 0
  have d1 : w.cell? ⟨bp, 1, none⟩ = some (.int .i64 xa) := hx.cell 1
  have d2 : w.cell? ⟨bp, 2, none⟩ = some (.int .i64 0) := hx.cell 2
  go_enter Try.func21, Try.ntmps21
  go_wp2_with (first
    | (go_at_call 26; (with_reducible refine (HP.out _).mono ?_); rintro e W1 ⟨rfl, k1⟩; have B1 := hx.keep k1; have b1 : But bp bp w W1 := But.of k1; clear k1 hx d0 d1 d2)
    | (refine wl_putAt 52 _ _ rfl rfl bp 0 rfl #[.string ys, .int .i64 ya] rfl szRd12 (by kernel_rfl) _ _ B1 (by decide : 0 + 2 ≤ 3) #[.string ys, .int .i64 ya, .int .i64 0] (by kernel_rfl) ?_; intro W2 B2 T2; have b2 := but_tr12 b1 (but_t12 T2); clear T2 B1 b1)
    | (refine wl_set 25 _ _ rfl rfl bp 2 rfl (.int .i64 ye) rfl rfl szEr12 _ _ B2 (by decide : 2 < 3) ?_; intro W3 B3 T3; have b3 := but_tr12 b2 (but_t12 T3); clear T3 B2 b2))
  go_ret
  exact ⟨rfl, B3, b3⟩
theorem post_ctt12 {P : Program} {fn : Func} {p u v : Tmp} {ty : TypeId} {a : Act} {W : World} {R : Ending → World → Prop} {n : Nat} {d : TypeDesc}
    (hu : P.underlying ty = some d) (hd : (match d with | .struct _ | .array _ _ => true | _ => false) = true) (hi : (P.info? ty).map (·.size) = some n)
    (hres : fn.results = #[.cell p ty, .tmp u, .tmp v]) {b : Nat} {cs : Array Value} {t : TypeId} (hB : Blk W b cs t) (hn : cs.size = n)
    (hp : a.tmps[p]?.getD undef = .pointer (some ⟨b, 0, none⟩)) {x y : Value} (hx : a.tmps[u]?.getD undef = x) (hy : a.tmps[v]?.getD undef = y) (hdf : a.defers = []) (hR : R (.returned (.tuple #[.agg cs, x, y])) W) : bodyPost P fn R .ret a W := by
  refine bodyPost_ret (v := .tuple #[.agg cs, x, y]) ?_ hdf hR
  simp only [results, hres]
  simp [Sem.run_bind, Result.andThen, hp, hx, hy, asAddr, run_loadVar_row W b t ty cs (0, 0) d hB hu hd (by rw [hi, hn])]
set_option maxHeartbeats 1000000 in
theorem take12_00 (s s1 s2 s3 bd : ByteArray) (a1 e1 a2 e2 a3 e3 z2 : Int) (told q : Nat) (ht : told ≤ 65535) (z : Nat) (hz : bits BinOp.and IntKind.i64 (told : Int) 63 = (z : Int)) (hz63 : z < 63) (he : e3 ≠ 0) (w : World)
    (HN1 : Hid (∀ (bp : Nat) W, Blk W bp #[.string s, .int .i64 0, .int .i64 0] 54 → Calls Try.prog 20 #[.pointer (some ⟨bp, 0, none⟩), .int .i64 2] W fun e w' => e = .returned (.int .i64 (told : Int)) ∧ Blk w' bp #[.string s1, .int .i64 a1, .int .i64 e1] 54 ∧ But bp bp W w'))
    (HB : Hid (∀ (bp : Nat) W, Blk W bp #[.string s1, .int .i64 a1, .int .i64 e1] 54 → Calls Try.prog 21 #[.pointer (some ⟨bp, 0, none⟩), .int .i64 (z : Int)] W fun e w' => e = .returned (.string bd) ∧ Blk w' bp #[.string s3, .int .i64 a3, .int .i64 e3] 54 ∧ But bp bp W w')) :
    Calls Try.prog 9 #[.string s] w fun e w' => e = .returned (.tuple #[.agg #[.int .i64 0, .string ⟨#[]⟩], .string ⟨#[]⟩, .int .i64 e3]) ∧ Below w.heap.size w w' := by
  have hzz : ((z : Int) == 63) = false := beq_eq_false_iff_ne.2 (by omega)
  clear hz63
  have hee : (e3 == 0) = false := beq_eq_false_iff_ne.2 he
  clear he
  go_enter Try.func9, Try.ntmps9
  go_upto_region 8 with (go_big_may; first
    | (refine wl_alloc 23 _ zeRw12 rfl rfl ?_; intro W1 bo Bo_1 l1 k1; have go : w.heap.size ≤ bo := l1; have Hw1 := k1; clear l1 k1)
    | (refine wl_box 54 _ _ rfl rfl (show _ = Value.agg #[.string s, .int .i64 0, .int .i64 0] from rfl) ?_; intro W2 bp Bp_2 l2 k2; have gp : w.heap.size ≤ bp := Nat.le_trans Hw1.size l2; have nop : bo ≠ bp := Nat.ne_of_lt (Nat.lt_of_lt_of_le Bo_1.lt l2); have Bo_2 := Bo_1.keep k2; have Hw2 := bq_trans Hw1 k2; clear l2 k2 Bo_1 Hw1)
    | (go_at_call 20; (with_reducible refine (HN1.out _ _ Bp_2).mono ?_); rintro e W3 ⟨rfl, Bp_3, k3⟩; have Bo_3 := Bo_2.but k3 nop nop; have Hw3 := k3.below Hw2 gp gp; clear k3 Bo_2 Bp_2 Hw2)
    | (go_at_call 21; (with_reducible refine (HB.out _ _ Bp_3).mono ?_); rintro e W4 ⟨rfl, Bp_4, k4⟩; have Bo_4 := Bo_3.but k4 nop nop; have Hw4 := k4.below Hw3 gp gp; clear k4 Bo_3 Bp_3 Hw3; have cp_2_4 : W4.cell? ⟨bp, 2, none⟩ = some (.int .i64 e3) := Bp_4.cell 2))
  have HC5 : Hid (∀ w', But bo bo W4 w' → w'.cell? ⟨bp, 2, none⟩ = some (.int .i64 e3)) := Lib.hid fun w' hw' => (Bp_4.but hw' (Ne.symm nop) (Ne.symm nop)).cell 2
  have hd5 : Below W4.heap.size W4 W4.drew := bq_drew (bq_refl W4)
  have do0 : W4.cell? ⟨bo, 0, none⟩ = some (.int .i64 0) := Bo_4.cell 0
  have fo0 := Bo_4.frozen 0
  have do1 : W4.cell? ⟨bo, 1, none⟩ = some (.string ⟨#[]⟩) := Bo_4.cell 1
  have fo1 := Bo_4.frozen 1
  have rp2 : W4.cell? ⟨bp, 2, none⟩ = some (.int .i64 e3) := Bp_4.cell 2
  go_region
  have Bo_5 : Blk ((W4.setCell ⟨bo, 0, none⟩ (.int .i64 0)).setCell ⟨bo, 1, none⟩ (.string ⟨#[]⟩)).drew bo #[.int .i64 0, .string ⟨#[]⟩] 23 := ((Bo_4.set 0 (.int .i64 0)).set 1 (.string ⟨#[]⟩)).drew
  have Bp_5 := ((Bp_4.other (a := ⟨bo, 0, none⟩) (.int .i64 0) (Ne.symm nop)).other (a := ⟨bo, 1, none⟩) (.string ⟨#[]⟩) (Ne.symm nop)).drew
  have Hw5 : Below w.heap.size w ((W4.setCell ⟨bo, 0, none⟩ (.int .i64 0)).setCell ⟨bo, 1, none⟩ (.string ⟨#[]⟩)).drew := bq_drew (bq_set (bq_set Hw4 ⟨bo, 0, none⟩ go (.int .i64 0)) ⟨bo, 1, none⟩ go (.string ⟨#[]⟩))
  clear HC5 hd5 do0 fo0 do1 fo1 rp2 Bo_4 Bp_4 Hw4 cp_2_4
  generalize ((W4.setCell ⟨bo, 0, none⟩ (.int .i64 0)).setCell ⟨bo, 1, none⟩ (.string ⟨#[]⟩)).drew = W5 at Bo_5 Bp_5 Hw5  ⊢
  go_wp2_with fail
  exact post_ctt12 Try.underlying23 rfl szRw12 Try.results9 Bo_5 rfl rfl rfl rfl rfl ⟨rfl, Hw5⟩
set_option maxHeartbeats 1000000 in
theorem take12_01 (s s1 s2 s3 bd : ByteArray) (a1 e1 a2 e2 a3 e3 z2 : Int) (told q : Nat) (ht : told ≤ 65535) (z : Nat) (hz : bits BinOp.and IntKind.i64 (told : Int) 63 = (z : Int)) (hz63 : z < 63) (hq : q ≤ s.size) (hs : s.size ≤ 1000000) (w : World)
    (HN1 : Hid (∀ (bp : Nat) W, Blk W bp #[.string s, .int .i64 0, .int .i64 0] 54 → Calls Try.prog 20 #[.pointer (some ⟨bp, 0, none⟩), .int .i64 2] W fun e w' => e = .returned (.int .i64 (told : Int)) ∧ Blk w' bp #[.string s1, .int .i64 a1, .int .i64 e1] 54 ∧ But bp bp W w'))
    (HB : Hid (∀ (bp : Nat) W, Blk W bp #[.string s1, .int .i64 a1, .int .i64 e1] 54 → Calls Try.prog 21 #[.pointer (some ⟨bp, 0, none⟩), .int .i64 (z : Int)] W fun e w' => e = .returned (.string bd) ∧ Blk w' bp #[.string s3, .int .i64 ((8 * (q : Int))), .int .i64 0] 54 ∧ But bp bp W w')) :
    Calls Try.prog 9 #[.string s] w fun e w' => e = .returned (.tuple #[.agg #[.int .i64 ((told : Int) / 64), .string bd], .string (s.extract q s.size), .int .i64 0]) ∧ Below w.heap.size w w' := by
  have hzz : ((z : Int) == 63) = false := beq_eq_false_iff_ne.2 (by omega)
  clear hz63
  have hq1 : (0 : Int) ≤ (q : Int) := by omega
  have hq2 : (q : Int) ≤ (s.size : Int) := by omega
  go_enter Try.func9, Try.ntmps9
  go_upto_region 9 with (go_big_may; first
    | (refine wl_alloc 23 _ zeRw12 rfl rfl ?_; intro W1 bo Bo_1 l1 k1; have go : w.heap.size ≤ bo := l1; have Hw1 := k1; clear l1 k1)
    | (refine wl_box 54 _ _ rfl rfl (show _ = Value.agg #[.string s, .int .i64 0, .int .i64 0] from rfl) ?_; intro W2 bp Bp_2 l2 k2; have gp : w.heap.size ≤ bp := Nat.le_trans Hw1.size l2; have nop : bo ≠ bp := Nat.ne_of_lt (Nat.lt_of_lt_of_le Bo_1.lt l2); have Bo_2 := Bo_1.keep k2; have Hw2 := bq_trans Hw1 k2; clear l2 k2 Bo_1 Hw1)
    | (go_at_call 20; (with_reducible refine (HN1.out _ _ Bp_2).mono ?_); rintro e W3 ⟨rfl, Bp_3, k3⟩; have Bo_3 := Bo_2.but k3 nop nop; have Hw3 := k3.below Hw2 gp gp; clear k3 Bo_2 Bp_2 Hw2)
    | (go_at_call 21; (with_reducible refine (HB.out _ _ Bp_3).mono ?_); rintro e W4 ⟨rfl, Bp_4, k4⟩; have Bo_4 := Bo_3.but k4 nop nop; have Hw4 := k4.below Hw3 gp gp; clear k4 Bo_3 Bp_3 Hw3; have cp_2_4 : W4.cell? ⟨bp, 2, none⟩ = some (.int .i64 0) := Bp_4.cell 2))
  have HC5 : Hid (∀ w', But bo bo W4 w' → w'.cell? ⟨bp, 1, none⟩ = some (.int .i64 (8 * (q : Int)))) := Lib.hid fun w' hw' => (Bp_4.but hw' (Ne.symm nop) (Ne.symm nop)).cell 1
  have hd5 : Below W4.heap.size W4 W4.drew := bq_drew (bq_refl W4)
  have do0 : W4.cell? ⟨bo, 0, none⟩ = some (.int .i64 0) := Bo_4.cell 0
  have fo0 := Bo_4.frozen 0
  have do1 : W4.cell? ⟨bo, 1, none⟩ = some (.string ⟨#[]⟩) := Bo_4.cell 1
  have fo1 := Bo_4.frozen 1
  have rp1 : W4.cell? ⟨bp, 1, none⟩ = some (.int .i64 (8 * (q : Int))) := Bp_4.cell 1
  go_region
  have Bo_5 : Blk ((W4.setCell ⟨bo, 0, none⟩ (.int .i64 (((told : Int) / 64)))).setCell ⟨bo, 1, none⟩ (.string bd)).drew bo #[.int .i64 ((told : Int) / 64), .string bd] 23 := ((Bo_4.set 0 (.int .i64 (((told : Int) / 64)))).set 1 (.string bd)).drew
  have Bp_5 := ((Bp_4.other (a := ⟨bo, 0, none⟩) (.int .i64 (((told : Int) / 64))) (Ne.symm nop)).other (a := ⟨bo, 1, none⟩) (.string bd) (Ne.symm nop)).drew
  have Hw5 : Below w.heap.size w ((W4.setCell ⟨bo, 0, none⟩ (.int .i64 (((told : Int) / 64)))).setCell ⟨bo, 1, none⟩ (.string bd)).drew := bq_drew (bq_set (bq_set Hw4 ⟨bo, 0, none⟩ go (.int .i64 (((told : Int) / 64)))) ⟨bo, 1, none⟩ go (.string bd))
  clear HC5 hd5 do0 fo0 do1 fo1 rp1 Bo_4 Bp_4 Hw4 cp_2_4
  generalize ((W4.setCell ⟨bo, 0, none⟩ (.int .i64 (((told : Int) / 64)))).setCell ⟨bo, 1, none⟩ (.string bd)).drew = W5 at Bo_5 Bp_5 Hw5  ⊢
  go_wp2_with fail
  exact post_ctt12 Try.underlying23 rfl szRw12 Try.results9 Bo_5 rfl rfl rfl rfl rfl ⟨rfl, Hw5⟩
set_option maxHeartbeats 1000000 in
theorem take12_10 (s s1 s2 s3 bd : ByteArray) (a1 e1 a2 e2 a3 e3 z2 : Int) (told q : Nat) (ht : told ≤ 65535) (z : Nat) (hz : bits BinOp.and IntKind.i64 (told : Int) 63 = (z : Int)) (hz63 : z = 63) (he : e3 ≠ 0) (w : World)
    (HN1 : Hid (∀ (bp : Nat) W, Blk W bp #[.string s, .int .i64 0, .int .i64 0] 54 → Calls Try.prog 20 #[.pointer (some ⟨bp, 0, none⟩), .int .i64 2] W fun e w' => e = .returned (.int .i64 (told : Int)) ∧ Blk w' bp #[.string s1, .int .i64 a1, .int .i64 e1] 54 ∧ But bp bp W w'))
    (HN2 : Hid (∀ (bp : Nat) W, Blk W bp #[.string s1, .int .i64 a1, .int .i64 e1] 54 → Calls Try.prog 20 #[.pointer (some ⟨bp, 0, none⟩), .int .i64 4] W fun e w' => e = .returned (.int .i64 z2) ∧ Blk w' bp #[.string s2, .int .i64 a2, .int .i64 e2] 54 ∧ But bp bp W w'))
    (HB : Hid (∀ (bp : Nat) W, Blk W bp #[.string s2, .int .i64 a2, .int .i64 e2] 54 → Calls Try.prog 21 #[.pointer (some ⟨bp, 0, none⟩), .int .i64 z2] W fun e w' => e = .returned (.string bd) ∧ Blk w' bp #[.string s3, .int .i64 a3, .int .i64 e3] 54 ∧ But bp bp W w')) :
    Calls Try.prog 9 #[.string s] w fun e w' => e = .returned (.tuple #[.agg #[.int .i64 0, .string ⟨#[]⟩], .string ⟨#[]⟩, .int .i64 e3]) ∧ Below w.heap.size w w' := by
  subst hz63
  have hee : (e3 == 0) = false := beq_eq_false_iff_ne.2 he
  clear he
  go_enter Try.func9, Try.ntmps9
  go_upto_region 8 with (go_big_may; first
    | (refine wl_alloc 23 _ zeRw12 rfl rfl ?_; intro W1 bo Bo_1 l1 k1; have go : w.heap.size ≤ bo := l1; have Hw1 := k1; clear l1 k1)
    | (refine wl_box 54 _ _ rfl rfl (show _ = Value.agg #[.string s, .int .i64 0, .int .i64 0] from rfl) ?_; intro W2 bp Bp_2 l2 k2; have gp : w.heap.size ≤ bp := Nat.le_trans Hw1.size l2; have nop : bo ≠ bp := Nat.ne_of_lt (Nat.lt_of_lt_of_le Bo_1.lt l2); have Bo_2 := Bo_1.keep k2; have Hw2 := bq_trans Hw1 k2; clear l2 k2 Bo_1 Hw1)
    | (go_at_call 20; (with_reducible refine (HN1.out _ _ Bp_2).mono ?_); rintro e W3 ⟨rfl, Bp_3, k3⟩; have Bo_3 := Bo_2.but k3 nop nop; have Hw3 := k3.below Hw2 gp gp; clear k3 Bo_2 Bp_2 Hw2)
    | (go_at_call 20; (with_reducible refine (HN2.out _ _ Bp_3).mono ?_); rintro e W4 ⟨rfl, Bp_4, k4⟩; have Bo_4 := Bo_3.but k4 nop nop; have Hw4 := k4.below Hw3 gp gp; clear k4 Bo_3 Bp_3 Hw3)
    | (go_at_call 21; (with_reducible refine (HB.out _ _ Bp_4).mono ?_); rintro e W5 ⟨rfl, Bp_5, k5⟩; have Bo_5 := Bo_4.but k5 nop nop; have Hw5 := k5.below Hw4 gp gp; clear k5 Bo_4 Bp_4 Hw4; have cp_2_5 : W5.cell? ⟨bp, 2, none⟩ = some (.int .i64 e3) := Bp_5.cell 2))
  have HC6 : Hid (∀ w', But bo bo W5 w' → w'.cell? ⟨bp, 2, none⟩ = some (.int .i64 e3)) := Lib.hid fun w' hw' => (Bp_5.but hw' (Ne.symm nop) (Ne.symm nop)).cell 2
  have hd6 : Below W5.heap.size W5 W5.drew := bq_drew (bq_refl W5)
  have do0 : W5.cell? ⟨bo, 0, none⟩ = some (.int .i64 0) := Bo_5.cell 0
  have fo0 := Bo_5.frozen 0
  have do1 : W5.cell? ⟨bo, 1, none⟩ = some (.string ⟨#[]⟩) := Bo_5.cell 1
  have fo1 := Bo_5.frozen 1
  have rp2 : W5.cell? ⟨bp, 2, none⟩ = some (.int .i64 e3) := Bp_5.cell 2
  go_region
  have Bo_6 : Blk ((W5.setCell ⟨bo, 0, none⟩ (.int .i64 0)).setCell ⟨bo, 1, none⟩ (.string ⟨#[]⟩)).drew bo #[.int .i64 0, .string ⟨#[]⟩] 23 := ((Bo_5.set 0 (.int .i64 0)).set 1 (.string ⟨#[]⟩)).drew
  have Bp_6 := ((Bp_5.other (a := ⟨bo, 0, none⟩) (.int .i64 0) (Ne.symm nop)).other (a := ⟨bo, 1, none⟩) (.string ⟨#[]⟩) (Ne.symm nop)).drew
  have Hw6 : Below w.heap.size w ((W5.setCell ⟨bo, 0, none⟩ (.int .i64 0)).setCell ⟨bo, 1, none⟩ (.string ⟨#[]⟩)).drew := bq_drew (bq_set (bq_set Hw5 ⟨bo, 0, none⟩ go (.int .i64 0)) ⟨bo, 1, none⟩ go (.string ⟨#[]⟩))
  clear HC6 hd6 do0 fo0 do1 fo1 rp2 Bo_5 Bp_5 Hw5 cp_2_5
  generalize ((W5.setCell ⟨bo, 0, none⟩ (.int .i64 0)).setCell ⟨bo, 1, none⟩ (.string ⟨#[]⟩)).drew = W6 at Bo_6 Bp_6 Hw6  ⊢
  go_wp2_with fail
  exact post_ctt12 Try.underlying23 rfl szRw12 Try.results9 Bo_6 rfl rfl rfl rfl rfl ⟨rfl, Hw6⟩
set_option maxHeartbeats 1000000 in
theorem take12_11 (s s1 s2 s3 bd : ByteArray) (a1 e1 a2 e2 a3 e3 z2 : Int) (told q : Nat) (ht : told ≤ 65535) (z : Nat) (hz : bits BinOp.and IntKind.i64 (told : Int) 63 = (z : Int)) (hz63 : z = 63) (hq : q ≤ s.size) (hs : s.size ≤ 1000000) (w : World)
    (HN1 : Hid (∀ (bp : Nat) W, Blk W bp #[.string s, .int .i64 0, .int .i64 0] 54 → Calls Try.prog 20 #[.pointer (some ⟨bp, 0, none⟩), .int .i64 2] W fun e w' => e = .returned (.int .i64 (told : Int)) ∧ Blk w' bp #[.string s1, .int .i64 a1, .int .i64 e1] 54 ∧ But bp bp W w'))
    (HN2 : Hid (∀ (bp : Nat) W, Blk W bp #[.string s1, .int .i64 a1, .int .i64 e1] 54 → Calls Try.prog 20 #[.pointer (some ⟨bp, 0, none⟩), .int .i64 4] W fun e w' => e = .returned (.int .i64 z2) ∧ Blk w' bp #[.string s2, .int .i64 a2, .int .i64 e2] 54 ∧ But bp bp W w'))
    (HB : Hid (∀ (bp : Nat) W, Blk W bp #[.string s2, .int .i64 a2, .int .i64 e2] 54 → Calls Try.prog 21 #[.pointer (some ⟨bp, 0, none⟩), .int .i64 z2] W fun e w' => e = .returned (.string bd) ∧ Blk w' bp #[.string s3, .int .i64 ((8 * (q : Int))), .int .i64 0] 54 ∧ But bp bp W w')) :
    Calls Try.prog 9 #[.string s] w fun e w' => e = .returned (.tuple #[.agg #[.int .i64 ((told : Int) / 64), .string bd], .string (s.extract q s.size), .int .i64 0]) ∧ Below w.heap.size w w' := by
  subst hz63
  have hq1 : (0 : Int) ≤ (q : Int) := by omega
  have hq2 : (q : Int) ≤ (s.size : Int) := by omega
  go_enter Try.func9, Try.ntmps9
  go_upto_region 9 with (go_big_may; first
    | (refine wl_alloc 23 _ zeRw12 rfl rfl ?_; intro W1 bo Bo_1 l1 k1; have go : w.heap.size ≤ bo := l1; have Hw1 := k1; clear l1 k1)
    | (refine wl_box 54 _ _ rfl rfl (show _ = Value.agg #[.string s, .int .i64 0, .int .i64 0] from rfl) ?_; intro W2 bp Bp_2 l2 k2; have gp : w.heap.size ≤ bp := Nat.le_trans Hw1.size l2; have nop : bo ≠ bp := Nat.ne_of_lt (Nat.lt_of_lt_of_le Bo_1.lt l2); have Bo_2 := Bo_1.keep k2; have Hw2 := bq_trans Hw1 k2; clear l2 k2 Bo_1 Hw1)
    | (go_at_call 20; (with_reducible refine (HN1.out _ _ Bp_2).mono ?_); rintro e W3 ⟨rfl, Bp_3, k3⟩; have Bo_3 := Bo_2.but k3 nop nop; have Hw3 := k3.below Hw2 gp gp; clear k3 Bo_2 Bp_2 Hw2)
    | (go_at_call 20; (with_reducible refine (HN2.out _ _ Bp_3).mono ?_); rintro e W4 ⟨rfl, Bp_4, k4⟩; have Bo_4 := Bo_3.but k4 nop nop; have Hw4 := k4.below Hw3 gp gp; clear k4 Bo_3 Bp_3 Hw3)
    | (go_at_call 21; (with_reducible refine (HB.out _ _ Bp_4).mono ?_); rintro e W5 ⟨rfl, Bp_5, k5⟩; have Bo_5 := Bo_4.but k5 nop nop; have Hw5 := k5.below Hw4 gp gp; clear k5 Bo_4 Bp_4 Hw4; have cp_2_5 : W5.cell? ⟨bp, 2, none⟩ = some (.int .i64 0) := Bp_5.cell 2))
  have HC6 : Hid (∀ w', But bo bo W5 w' → w'.cell? ⟨bp, 1, none⟩ = some (.int .i64 (8 * (q : Int)))) := Lib.hid fun w' hw' => (Bp_5.but hw' (Ne.symm nop) (Ne.symm nop)).cell 1
  have hd6 : Below W5.heap.size W5 W5.drew := bq_drew (bq_refl W5)
  have do0 : W5.cell? ⟨bo, 0, none⟩ = some (.int .i64 0) := Bo_5.cell 0
  have fo0 := Bo_5.frozen 0
  have do1 : W5.cell? ⟨bo, 1, none⟩ = some (.string ⟨#[]⟩) := Bo_5.cell 1
  have fo1 := Bo_5.frozen 1
  have rp1 : W5.cell? ⟨bp, 1, none⟩ = some (.int .i64 (8 * (q : Int))) := Bp_5.cell 1
  go_region
  have Bo_6 : Blk ((W5.setCell ⟨bo, 0, none⟩ (.int .i64 (((told : Int) / 64)))).setCell ⟨bo, 1, none⟩ (.string bd)).drew bo #[.int .i64 ((told : Int) / 64), .string bd] 23 := ((Bo_5.set 0 (.int .i64 (((told : Int) / 64)))).set 1 (.string bd)).drew
  have Bp_6 := ((Bp_5.other (a := ⟨bo, 0, none⟩) (.int .i64 (((told : Int) / 64))) (Ne.symm nop)).other (a := ⟨bo, 1, none⟩) (.string bd) (Ne.symm nop)).drew
  have Hw6 : Below w.heap.size w ((W5.setCell ⟨bo, 0, none⟩ (.int .i64 (((told : Int) / 64)))).setCell ⟨bo, 1, none⟩ (.string bd)).drew := bq_drew (bq_set (bq_set Hw5 ⟨bo, 0, none⟩ go (.int .i64 (((told : Int) / 64)))) ⟨bo, 1, none⟩ go (.string bd))
  clear HC6 hd6 do0 fo0 do1 fo1 rp1 Bo_5 Bp_5 Hw5 cp_2_5
  generalize ((W5.setCell ⟨bo, 0, none⟩ (.int .i64 (((told : Int) / 64)))).setCell ⟨bo, 1, none⟩ (.string bd)).drew = W6 at Bo_6 Bp_6 Hw6  ⊢
  go_wp2_with fail
  exact post_ctt12 Try.underlying23 rfl szRw12 Try.results9 Bo_6 rfl rfl rfl rfl rfl ⟨rfl, Hw6⟩
def takeV (s : ByteArray) : Value := match TG.take s.data.toList with
  | none => .tuple #[.agg #[.int .i64 0, .string ⟨#[]⟩], .string ⟨#[]⟩, .int .i64 2]
  | some (c, b, r) => .tuple #[.agg #[.int .i64 (c : Int), .string (bs b)], .string (bs r), .int .i64 0]
theorem and63 (t : Nat) (h : t ≤ 65535) : bits BinOp.and IntKind.i64 (t : Int) 63 = ((t % 64 : Nat) : Int) := by
  have := i64_and_nat t 63 (by omega) (by omega)
  rw [show ((63 : Nat) : Int) = 63 from rfl] at this
  rw [this]
  congr 1
  exact Nat.and_two_pow_sub_one_eq_mod t 6
theorem ext12 (s : ByteArray) (i j : Nat) (h : j ≤ s.size) : s.extract i j = bs ((s.data.toList.drop i).take (j - i)) := by
  apply ByteArray.ext
  apply Array.ext'
  simp [ByteArray.data_extract, bs, List.drop_take]
theorem li_ok12 (s : ByteArray) (k n : Nat) (h1 : 1 ≤ n) (h4 : n ≤ 4) (h : k + n ≤ s.size) : liR s ((8 * k : Nat) : Int) n = .tuple #[.int .i64 (B.lv ((s.data.toList.drop k).take n) : Int), .agg #[.string s, .int .i64 ((8 * (k + n) : Nat) : Int)], .int .i64 0] := by
  have e : byE s.size ((8 * k : Nat) : Int) n = 0 := by unfold byE; rw [if_pos (by omega), if_neg (by omega)]
  have ek : (((8 * k : Nat) : Int) + 7) / 8 = (k : Int) := by omega
  have eb : byB s ((8 * k : Nat) : Int) n = bs ((s.data.toList.drop k).take n) := by
    unfold byB
    rw [if_pos e, ek, Int.toNat_natCast, Int.toNat_natCast, ext12 s k (k + n) h]
    congr 2
    omega
  have es : byS s ((8 * k : Nat) : Int) n = s := by unfold byS; rw [if_pos e]
  have ea : byA s ((8 * k : Nat) : Int) n = ((8 * (k + n) : Nat) : Int) := by unfold byA; rw [if_pos e, ek]; omega
  rw [liR, if_pos (by omega), eb, es, ea, e, bs_data]
theorem li_short12 (s : ByteArray) (k n : Nat) (h1 : 1 ≤ n) (h4 : n ≤ 4) (hk : k ≤ s.size) (h : s.size < k + n) : liR s ((8 * k : Nat) : Int) n = .tuple #[.int .i64 0, .agg #[.string ⟨#[]⟩, .int .i64 0], .int .i64 2] := by
  have e : byE s.size ((8 * k : Nat) : Int) n = 2 := by unfold byE; rw [if_pos (by omega), if_pos (by omega)]
  have eb : byB s ((8 * k : Nat) : Int) n = ⟨#[]⟩ := by unfold byB; rw [if_neg (by rw [e]; decide)]
  have es : byS s ((8 * k : Nat) : Int) n = ⟨#[]⟩ := by unfold byS; rw [if_neg (by rw [e]; decide)]
  have ea : byA s ((8 * k : Nat) : Int) n = 0 := by unfold byA; rw [if_neg (by rw [e]; decide)]
  rw [liR, if_pos (by omega), eb, es, ea, e]
  rfl
theorem by_ok12 (s : ByteArray) (k n : Nat) (h : k + n ≤ s.size) : byR s ((8 * k : Nat) : Int) n = .tuple #[.string (bs ((s.data.toList.drop k).take n)), .agg #[.string s, .int .i64 (8 * ((k + n : Nat) : Int))], .int .i64 0] := by
  rw [byR_ok (k := k) (n := n) (by omega) (by omega) (by omega), ext12 s k (k + n) h, show k + n - k = n by omega]
  rfl
theorem by_short12 (s : ByteArray) (k n : Nat) (hk : k ≤ s.size) (h : s.size < k + n) : byR s ((8 * k : Nat) : Int) n = .tuple #[.string ⟨#[]⟩, .agg #[.string ⟨#[]⟩, .int .i64 0], .int .i64 2] := byR_short (by omega) (by omega)
theorem nu_ok12 (s : ByteArray) (k n : Nat) (h1 : 1 ≤ n) (h4 : n ≤ 4) (h : k + n ≤ s.size) (hs : s.size ≤ 1000000) (bp : Nat) (W : World) (hx : Blk W bp #[.string s, .int .i64 (((8 * k : Nat) : Int)), .int .i64 0] 54) :
    Calls Try.prog 20 #[.pointer (some ⟨bp, 0, none⟩), .int .i64 n] W fun e w' => e = .returned (.int .i64 (B.lv ((s.data.toList.drop k).take n) : Int)) ∧ Blk w' bp #[.string s, .int .i64 (((8 * (k + n) : Nat) : Int)), .int .i64 0] 54 ∧ But bp bp W w' :=
  number12_ok s s _ _ 0 n _ bp W hx (Lib.hid fun W => li_ok12 s k n h1 h4 h ▸ little_any s _ n W (by omega))
theorem nu_short12 (s : ByteArray) (k n : Nat) (h1 : 1 ≤ n) (h4 : n ≤ 4) (hk : k ≤ s.size) (h : s.size < k + n) (hs : s.size ≤ 1000000) (bp : Nat) (W : World) (hx : Blk W bp #[.string s, .int .i64 (((8 * k : Nat) : Int)), .int .i64 0] 54) :
    Calls Try.prog 20 #[.pointer (some ⟨bp, 0, none⟩), .int .i64 n] W fun e w' => e = .returned (.int .i64 0) ∧ Blk w' bp #[.string ⟨#[]⟩, .int .i64 0, .int .i64 2] 54 ∧ But bp bp W w' :=
  number12_ok s _ _ _ _ n _ bp W hx (Lib.hid fun W => li_short12 s k n h1 h4 hk h ▸ little_any s _ n W (by omega))
theorem by_okB12 (s : ByteArray) (k n : Nat) (h : k + n ≤ s.size) (hs : s.size ≤ 1000000) (bp : Nat) (W : World) (hx : Blk W bp #[.string s, .int .i64 (((8 * k : Nat) : Int)), .int .i64 0] 54) :
    Calls Try.prog 21 #[.pointer (some ⟨bp, 0, none⟩), .int .i64 n] W fun e w' => e = .returned (.string (bs ((s.data.toList.drop k).take n))) ∧ Blk w' bp #[.string s, .int .i64 ((8 * ((k + n : Nat) : Int))), .int .i64 0] 54 ∧ But bp bp W w' :=
  bytes12_ok s s _ _ 0 n _ bp W hx (Lib.hid fun W => by_ok12 s k n h ▸ bytes_any s _ n W (by omega))
theorem by_shortB12 (s : ByteArray) (k n : Nat) (hk : k ≤ s.size) (h : s.size < k + n) (hs : s.size ≤ 1000000) (bp : Nat) (W : World) (hx : Blk W bp #[.string s, .int .i64 (((8 * k : Nat) : Int)), .int .i64 0] 54) :
    Calls Try.prog 21 #[.pointer (some ⟨bp, 0, none⟩), .int .i64 n] W fun e w' => e = .returned (.string ⟨#[]⟩) ∧ Blk w' bp #[.string ⟨#[]⟩, .int .i64 0, .int .i64 2] 54 ∧ But bp bp W w' :=
  bytes12_ok s _ _ _ _ n _ bp W hx (Lib.hid fun W => by_short12 s k n hk h ▸ bytes_any s _ n W (by omega))
theorem take12_any (s : ByteArray) (w : World) (hs : s.size ≤ 1000000) : Calls Try.prog 9 #[.string s] w fun e w' => e = .returned (takeV s) ∧ Below w.heap.size w w' := by
  have hl := bytes_length s
  match hL : s.data.toList with
  | [] =>
    have e : takeV s = .tuple #[.agg #[.int .i64 0, .string ⟨#[]⟩], .string ⟨#[]⟩, .int .i64 2] := by unfold takeV; rw [hL]; rfl
    rw [hL] at hl
    rw [e]
    exact take12_00 s ⟨#[]⟩ ⟨#[]⟩ ⟨#[]⟩ ⟨#[]⟩ 0 2 0 0 0 2 0 0 0 (by omega) 0 (by decide) (by decide) (by decide) w (Lib.hid fun bp W h => nu_short12 s 0 2 (by decide) (by decide) (by omega) (by simp at hl; omega) hs bp W h) (Lib.hid fun bp W h => bytes12_err _ _ _ _ bp W h (by decide))
  | [x] =>
    have e : takeV s = .tuple #[.agg #[.int .i64 0, .string ⟨#[]⟩], .string ⟨#[]⟩, .int .i64 2] := by unfold takeV; rw [hL]; rfl
    rw [hL] at hl
    rw [e]
    exact take12_00 s ⟨#[]⟩ ⟨#[]⟩ ⟨#[]⟩ ⟨#[]⟩ 0 2 0 0 0 2 0 0 0 (by omega) 0 (by decide) (by decide) (by decide) w (Lib.hid fun bp W h => nu_short12 s 0 2 (by decide) (by decide) (by omega) (by simp at hl; omega) hs bp W h) (Lib.hid fun bp W h => bytes12_err _ _ _ _ bp W h (by decide))
  | x :: y :: l =>
    rw [hL] at hl
    simp only [List.length_cons] at hl
    have hx := x.toNat_lt
    have hy := y.toNat_lt
    obtain ⟨t, ht⟩ : ∃ t, t = x.toNat + 256 * y.toNat := ⟨_, rfl⟩
    have hlv : B.lv ((s.data.toList.drop 0).take 2) = t := by rw [hL, ht]; simp [B.lv]
    have H1 := Lib.hid fun bp W h => nu_ok12 s 0 2 (by decide) (by decide) (by omega) hs bp W h
    rw [hlv] at H1
    have htk : TG.take s.data.toList = if t % 64 < 63 then TG.body l (t / 64) (t % 64) else if 4 ≤ l.length then TG.body (l.drop 4) (t / 64) (B.lv (l.take 4)) else none := by rw [hL, TG.take_cc, ht]
    have hdiv : (t : Int) / 64 = ((t / 64 : Nat) : Int) := by omega
    have ht2 : t ≤ 65535 := by omega
    by_cases h1 : t % 64 < 63
    · rw [if_pos h1] at htk
      by_cases h2 : t % 64 ≤ l.length
      · have e : takeV s = .tuple #[.agg #[.int .i64 ((t : Int) / 64), .string (bs ((s.data.toList.drop 2).take (t % 64)))], .string (s.extract (2 + t % 64) s.size), .int .i64 0] := by
          unfold takeV
          rw [htk, TG.body, if_pos h2, hdiv, ext12 s _ _ (Nat.le_refl _), hL]
          simp only [List.drop_succ_cons, List.drop_zero]
          congr 4
          rw [Nat.add_comm, show l.drop (t % 64) = (x :: y :: l).drop (t % 64 + 2) from rfl, List.take_of_length_le (by simp; omega)]
        rw [e]
        exact take12_01 s s ⟨#[]⟩ s _ 16 0 0 0 0 0 0 t (2 + t % 64) ht2 (t % 64) (and63 t ht2) h1 (by omega) hs w H1 (Lib.hid fun bp W h => by_okB12 s 2 (t % 64) (by omega) hs bp W h)
      · have e : takeV s = .tuple #[.agg #[.int .i64 0, .string ⟨#[]⟩], .string ⟨#[]⟩, .int .i64 2] := by unfold takeV; rw [htk, TG.body, if_neg h2]
        rw [e]
        exact take12_00 s s ⟨#[]⟩ ⟨#[]⟩ ⟨#[]⟩ 16 0 0 0 0 2 0 t 0 ht2 (t % 64) (and63 t ht2) h1 (by decide) w H1 (Lib.hid fun bp W h => by_shortB12 s 2 (t % 64) (by omega) (by omega) hs bp W h)
    · rw [if_neg h1] at htk
      by_cases h4 : 4 ≤ l.length
      · rw [if_pos h4] at htk
        have hlv4 : B.lv ((s.data.toList.drop 2).take 4) = B.lv (l.take 4) := by rw [hL]; rfl
        have H2 := Lib.hid fun bp W h => nu_ok12 s 2 4 (by decide) (by decide) (by omega) hs bp W h
        rw [hlv4] at H2
        obtain ⟨z, hz⟩ : ∃ z, z = B.lv (l.take 4) := ⟨_, rfl⟩
        rw [← hz] at H2 htk
        by_cases h2 : z ≤ (l.drop 4).length
        · have hll : (l.drop 4).length = l.length - 4 := List.length_drop
          have e : takeV s = .tuple #[.agg #[.int .i64 ((t : Int) / 64), .string (bs ((s.data.toList.drop 6).take z))], .string (s.extract (6 + z) s.size), .int .i64 0] := by
            unfold takeV
            rw [htk, TG.body, if_pos h2, hdiv, ext12 s _ _ (Nat.le_refl _), hL]
            simp only [List.drop_succ_cons, List.drop_zero]
            congr 4
            rw [List.drop_drop, Nat.add_comm 6 z, show l.drop (4 + z) = (x :: y :: l).drop (4 + z + 2) from rfl, show z + 6 = 4 + z + 2 by omega, List.take_of_length_le (by simp; omega)]
          rw [e]
          exact take12_11 s s s s _ 16 0 48 0 0 0 z t (6 + z) ht2 63 (by rw [and63 t ht2]; congr 1; omega) rfl (by omega) hs w H1 H2 (Lib.hid fun bp W h => by_okB12 s 6 z (by omega) hs bp W h)
        · have e : takeV s = .tuple #[.agg #[.int .i64 0, .string ⟨#[]⟩], .string ⟨#[]⟩, .int .i64 2] := by unfold takeV; rw [htk, TG.body, if_neg h2]
          have hll : (l.drop 4).length = l.length - 4 := List.length_drop
          rw [e]
          exact take12_10 s s s ⟨#[]⟩ ⟨#[]⟩ 16 0 48 0 0 2 z t 0 ht2 63 (by rw [and63 t ht2]; congr 1; omega) rfl (by decide) w H1 H2 (Lib.hid fun bp W h => by_shortB12 s 6 z (by omega) (by omega) hs bp W h)
      · rw [if_neg h4] at htk
        have e : takeV s = .tuple #[.agg #[.int .i64 0, .string ⟨#[]⟩], .string ⟨#[]⟩, .int .i64 2] := by unfold takeV; rw [htk]
        rw [e]
        exact take12_10 s s ⟨#[]⟩ ⟨#[]⟩ ⟨#[]⟩ 16 0 0 2 0 2 0 t 0 ht2 63 (by rw [and63 t ht2]; congr 1; omega) rfl (by decide) w H1 (Lib.hid fun bp W h => nu_short12 s 2 4 (by decide) (by decide) (by omega) (by omega) hs bp W h) (Lib.hid fun bp W h => bytes12_err _ _ _ _ bp W h (by decide))
end Go.Proofs.Ytffcfcgkpebdoaa
namespace Go.Proofs.Ytffcfcgkpebdoaa
open Go.RowKit
set_option linter.unusedVariables false
set_option linter.unusedSimpArgs false
set_option maxRecDepth 100000
theorem raw_info12 : (Try.prog.info? 23).map (fun i => (i.zero, i.size, decide (i.bytes ≤ 1000))) = some (some (.agg #[.int .i64 0, .string ⟨#[]⟩]), 2, true) := by kernel_rfl
theorem raw1_run (c : Int) (s : ByteArray) (w : World) : (Instr.buildSlice 33 1 [(0, .agg #[.int .i64 c, .string s])].toArray).run Try.prog w = .ok (.slice (some ⟨w.heap.size, 0, none⟩) 1 1) (w.alloc (.cells #[.int .i64 c, .string s] 23)) := by
  obtain ⟨ie, h1, h2⟩ := Option.map_eq_some_iff.1 raw_info12
  have hz := congrArg (·.1) h2
  have hs : ie.size = 2 := congrArg (·.2.1) h2
  refine run_buildSlice w 33 23 1 _ _ ie _ Try.underlying33 h1 hz (by rw [hs]; decide) (by rw [hs]; decide) ?_
  rw [hs]; kernel_rfl
def prep (ts : List (Nat × List UInt8)) (x : Except Int (List (Nat × List UInt8) × List UInt8)) : Except Int (List (Nat × List UInt8) × List UInt8) := x.map fun p => (ts ++ p.1, p.2)
theorem prep_ok (ts us : List (Nat × List UInt8)) (r : List UInt8) : prep ts (.ok (us, r)) = .ok (ts ++ us, r) := rfl
theorem prep_prep (ts us : List (Nat × List UInt8)) (x : Except Int (List (Nat × List UInt8) × List UInt8)) : prep ts (prep us x) = prep (ts ++ us) x := by
  cases x with
  | error e => rfl
  | ok p => simp [prep, Except.map]
theorem prep_nil (x : Except Int (List (Nat × List UInt8) × List UInt8)) : prep [] x = x := by cases x <;> rfl
theorem split_none {m : Nat} {l : List UInt8} (h : TG.take l = none) : TG.split m l = .error 2 := by cases m <;> (unfold TG.split; rw [h])
theorem split_bad {m c : Nat} {l b r : List UInt8} (h : TG.take l = some (c, b, r)) (hc : c = 0) (hb : b ≠ []) : TG.split m l = .error 3 := by
  have : b.length ≠ 0 := fun e => hb (List.eq_nil_of_length_eq_zero e)
  cases m <;> (unfold TG.split; rw [h]; simp only; rw [if_pos hc, if_neg this])
theorem split_end {m c : Nat} {l b r : List UInt8} (h : TG.take l = some (c, b, r)) (hc : c = 0) (hb : b = []) : TG.split m l = .ok ([], r) := by
  subst hb
  cases m <;> (unfold TG.split; rw [h]; simp only; rw [if_pos hc]; rfl)
theorem split_full {c : Nat} {l b r : List UInt8} (h : TG.take l = some (c, b, r)) (hc : c ≠ 0) : TG.split 0 l = .error 7 := by
  unfold TG.split; rw [h]; simp only; rw [if_neg hc]
theorem split_step {m c : Nat} {l b r : List UInt8} (h : TG.take l = some (c, b, r)) (hc : c ≠ 0) : TG.split (m + 1) l = prep [(c, b)] (TG.split m r) := by
  rw [TG.split, h]; simp only; rw [if_neg hc]; rfl
theorem takeV_none {s : ByteArray} (h : TG.take s.data.toList = none) : takeV s = .tuple #[.agg #[.int .i64 0, .string ⟨#[]⟩], .string ⟨#[]⟩, .int .i64 2] := by unfold takeV; rw [h]
theorem takeV_some {s : ByteArray} {c : Nat} {b r : List UInt8} (h : TG.take s.data.toList = some (c, b, r)) : takeV s = .tuple #[.agg #[.int .i64 (c : Int), .string (bs b)], .string (bs r), .int .i64 0] := by unfold takeV; rw [h]
theorem own_len {w : World} {B : Nat} {e : TypeId} {v : Value} {ts : List (Int × ByteArray)} (h : OwnG w B e v ts) : ∃ a c, v = .slice a ts.length c := by
  obtain ⟨a, c, hv⟩ := h.1.slice
  rw [List.length_map] at hv
  exact ⟨a, c, hv⟩
def lenOf12 : Value → Nat
  | .slice _ n _ => n
  | _ => 0
def SplitP (w w' : World) (s : ByteArray) (e : Ending) : Prop := match TG.split 256 s.data.toList with
  | .error x => e = .returned (.tuple #[.slice none 0 0, .string ⟨#[]⟩, .int .i64 x])
  | .ok (ts, r) => ∃ v, e = .returned (.tuple #[v, .string (bs r), .int .i64 0]) ∧ OwnG w' w.heap.size 23 v (ofL ts)
theorem splitP_err {w w' : World} {s : ByteArray} {x : Int} (h : TG.split 256 s.data.toList = .error x) : SplitP w w' s (.returned (.tuple #[.slice none 0 0, .string ⟨#[]⟩, .int .i64 x])) := by unfold SplitP; rw [h]
theorem splitP_ok {w w' : World} {s : ByteArray} {ts : List (Nat × List UInt8)} {r : List UInt8} {v : Value} (h : TG.split 256 s.data.toList = .ok (ts, r)) (hv : OwnG w' w.heap.size 23 v (ofL ts)) : SplitP w w' s (.returned (.tuple #[v, .string (bs r), .int .i64 0])) := by unfold SplitP; rw [h]; exact ⟨v, rfl, hv⟩
def SRel (w : World) (s0 : ByteArray) (sv l : Value) (wr : World) : Prop :=
  ∃ (ts : List (Nat × List UInt8)) (s : ByteArray), sv = .string s ∧ s.size ≤ 1000000 ∧ OwnG wr w.heap.size 23 l (ofL ts) ∧ ts.length ≤ 256 ∧ Below w.heap.size w wr ∧ TG.split 256 s0.data.toList = prep ts (TG.split (256 - ts.length) s.data.toList)
set_option maxHeartbeats 2000000 in
theorem split12_any (s0 : ByteArray) (w : World) (hs0 : s0.size ≤ 1000000) : Calls Try.prog 15 #[.string s0] w fun e w' => SplitP w w' s0 e ∧ Below w.heap.size w w' := by
  have HS0 := Lib.hid hs0
  clear hs0
  go_enter Try.func15, Try.ntmps15
  go_wp2_with fail
  go_loopw [0, 5] (fun sv l wr => SRel w s0 sv l wr) (fun _ l _ => 257 - lenOf12 l)
  case atStart => exact ⟨[], s0, rfl, HS0.out, ownG_nil _ _ _, by simp, bq_refl w, (prep_nil _).symm⟩
  case round =>
    obtain ⟨ts, s, rfl, hs, hown, hlen, hbel, hsp⟩ := hrel
    obtain ⟨va, vc, rfl⟩ := own_len hown
    rw [ofL_len] at *
    have HSP := Lib.hid hsp
    have HB := Lib.hid hbel
    have HGB := Lib.hid hown.2
    have HLN : Hid (ts.length ≤ 256) := Lib.hid hlen
    have OM := hown.1.m
    have SM : SzM wr w.heap.size wr.heap.size := ⟨Nat.le_refl _⟩
    have hsz : w.heap.size ≤ wr.heap.size := hbel.size
    have HT0 := Lib.hid (fun W => take12_any s W hs)
    have HSS := Lib.hid hs
    clear hown hlen hbel hsp hs HS0
    cases hq : TG.take s.data.toList with
    | none =>
      have HR : Hid (TG.split 256 s0.data.toList = .error 2) := Lib.hid (by rw [HSP.out, split_none hq]; rfl)
      have HT : Hid (∀ W, Calls Try.prog 9 #[.string s] W fun e w' => e = .returned (.tuple #[.agg #[.int .i64 0, .string ⟨#[]⟩], .string ⟨#[]⟩, .int .i64 2]) ∧ Below W.heap.size W w') := Lib.hid fun W => takeV_none hq ▸ HT0.out W
      clear hq HT0 HSP HGB
      generalize ts.length = n at *
      go_wp2_with (first
        | (go_at_call 9; (with_reducible refine (HT.out _).mono ?_); rintro e W21 ⟨rfl, k21⟩; have Ov_21 := OM.keep k21; have Om_21 := SM.keep k21; have Hw21 := k21; clear k21 OM SM)
        | (refine wl_alloc 23 _ zeRw12 rfl rfl ?_; intro W22 bt Bt_22 l22 k22; have gt : wr.heap.size ≤ bt := Nat.le_trans Hw21.size l22; have lot := Nat.le_trans Om_21.le l22; have Ov_22 := Ov_21.keep k22; have Om_22 := Om_21.keep k22; have Hw22 := bq_trans Hw21 k22; clear l22 k22 Ov_21 Om_21 Hw21)
        | (refine wl_store 23 2 szRw12 _ _ rfl rfl _ rfl #[.int .i64 0, .string ⟨#[]⟩] rfl _ _ Bt_22 rfl rfl (by kernel_rfl) ?_; intro W23 Bt_23 T23; have Ov_23 := Ov_22.turned T23 (Or.inr lot); have Om_23 := Om_22.turned T23 (Or.inr lot); have Hw23 := T23.below Hw22 gt; clear T23 Ov_22 Om_22 Bt_22 Hw22))
      go_ret3
      exact ⟨splitP_err HR.out, bq_trans HB.out Hw23⟩
    | some q =>
      obtain ⟨c, b, r⟩ := q
      have HT1 := Lib.hid fun W => takeV_some hq ▸ HT0.out W
      have HTS := Lib.hid (TG.take_some hq)
      have HT : Hid (∀ W, Calls Try.prog 9 #[.string s] W fun e w' => e = .returned (.tuple #[.agg #[.int .i64 (c : Int), .string (bs b)], .string (bs r), .int .i64 0]) ∧ Below W.heap.size W w') := HT1
      clear HT0 HT1
      by_cases hc : c = 0
      · subst hc
        by_cases hb : b = []
        · subst hb
          have HR : Hid (TG.split 256 s0.data.toList = .ok (ts, r)) := Lib.hid (by rw [HSP.out, split_end hq rfl rfl, prep_ok, List.append_nil])
          have HT2 : Hid (∀ W, Calls Try.prog 9 #[.string s] W fun e w' => e = .returned (.tuple #[.agg #[.int .i64 0, .string ⟨#[]⟩], .string (bs r), .int .i64 0]) ∧ Below W.heap.size W w') := HT
          clear HT HSP hq HTS
          have HT := HT2
          generalize ts.length = n at *
          go_wp2_with (first
            | (go_at_call 9; (with_reducible refine (HT.out _).mono ?_); rintro e W21 ⟨rfl, k21⟩; have Ov_21 := OM.keep k21; have Om_21 := SM.keep k21; have Hw21 := k21; clear k21 OM SM)
            | (refine wl_alloc 23 _ zeRw12 rfl rfl ?_; intro W22 bt Bt_22 l22 k22; have gt : wr.heap.size ≤ bt := Nat.le_trans Hw21.size l22; have lot := Nat.le_trans Om_21.le l22; have Ov_22 := Ov_21.keep k22; have Om_22 := Om_21.keep k22; have Hw22 := bq_trans Hw21 k22; clear l22 k22 Ov_21 Om_21 Hw21)
            | (refine wl_store 23 2 szRw12 _ _ rfl rfl _ rfl #[.int .i64 0, .string ⟨#[]⟩] rfl _ _ Bt_22 rfl rfl (by kernel_rfl) ?_; intro W23 Bt_23 T23; have Ov_23 := Ov_22.turned T23 (Or.inr lot); have Om_23 := Om_22.turned T23 (Or.inr lot); have Hw23 := T23.below Hw22 gt; clear T23 Ov_22 Om_22 Bt_22 Hw22; have ct_0_23 : W23.cell? ⟨bt, 0, none⟩ = some (.int .i64 0) := Bt_23.cell 0; have ct_1_23 : W23.cell? ⟨bt, 1, none⟩ = some (.string ⟨#[]⟩) := Bt_23.cell 1))
          go_ret3
          exact ⟨splitP_ok HR.out ⟨Ov_23.1, HGB.out⟩, bq_trans HB.out Hw23⟩
        · have HR : Hid (TG.split 256 s0.data.toList = .error 3) := Lib.hid (by rw [HSP.out, split_bad hq rfl hb]; rfl)
          have e1 : (bs b).toList.isEmpty = false := by
            rw [ByteArray.toList_eq, bs_data, List.isEmpty_eq_false_iff]
            exact hb
          clear HSP hq HTS hb
          generalize bs b = bd at *
          generalize ts.length = n at *
          go_wp2_with (first
            | (go_at_call 9; (with_reducible refine (HT.out _).mono ?_); rintro e W21 ⟨rfl, k21⟩; have Ov_21 := OM.keep k21; have Om_21 := SM.keep k21; have Hw21 := k21; clear k21 OM SM)
            | (refine wl_alloc 23 _ zeRw12 rfl rfl ?_; intro W22 bt Bt_22 l22 k22; have gt : wr.heap.size ≤ bt := Nat.le_trans Hw21.size l22; have lot := Nat.le_trans Om_21.le l22; have Ov_22 := Ov_21.keep k22; have Om_22 := Om_21.keep k22; have Hw22 := bq_trans Hw21 k22; clear l22 k22 Ov_21 Om_21 Hw21)
            | (refine wl_store 23 2 szRw12 _ _ rfl rfl _ rfl #[.int .i64 0, .string bd] rfl _ _ Bt_22 rfl rfl (by kernel_rfl) ?_; intro W23 Bt_23 T23; have Ov_23 := Ov_22.turned T23 (Or.inr lot); have Om_23 := Om_22.turned T23 (Or.inr lot); have Hw23 := T23.below Hw22 gt; clear T23 Ov_22 Om_22 Bt_22 Hw22; have ct_0_23 : W23.cell? ⟨bt, 0, none⟩ = some (.int .i64 0) := Bt_23.cell 0; have ct_1_23 : W23.cell? ⟨bt, 1, none⟩ = some (.string bd) := Bt_23.cell 1))
          go_ret3
          exact ⟨splitP_err HR.out, bq_trans HB.out Hw23⟩
      · have hc0 : ((c : Int) == 0) = false := beq_eq_false_iff_ne.2 (by omega)
        by_cases hn : ts.length = 256
        · have HR : Hid (TG.split 256 s0.data.toList = .error 7) := Lib.hid (by rw [HSP.out, hn, split_full hq hc]; rfl)
          have hn0 : (((ts.length : Nat) : Int) == 256) = true := by rw [hn]; rfl
          clear HSP hq HTS hc hn
          generalize bs b = bd at *
          generalize ts.length = n at *
          go_wp2_with (first
            | (go_at_call 9; (with_reducible refine (HT.out _).mono ?_); rintro e W21 ⟨rfl, k21⟩; have Ov_21 := OM.keep k21; have Om_21 := SM.keep k21; have Hw21 := k21; clear k21 OM SM)
            | (refine wl_alloc 23 _ zeRw12 rfl rfl ?_; intro W22 bt Bt_22 l22 k22; have gt : wr.heap.size ≤ bt := Nat.le_trans Hw21.size l22; have lot := Nat.le_trans Om_21.le l22; have Ov_22 := Ov_21.keep k22; have Om_22 := Om_21.keep k22; have Hw22 := bq_trans Hw21 k22; clear l22 k22 Ov_21 Om_21 Hw21)
            | (refine wl_store 23 2 szRw12 _ _ rfl rfl _ rfl #[.int .i64 (c : Int), .string bd] rfl _ _ Bt_22 rfl rfl (by kernel_rfl) ?_; intro W23 Bt_23 T23; have Ov_23 := Ov_22.turned T23 (Or.inr lot); have Om_23 := Om_22.turned T23 (Or.inr lot); have Hw23 := T23.below Hw22 gt; clear T23 Ov_22 Om_22 Bt_22 Hw22; have ct_0_23 : W23.cell? ⟨bt, 0, none⟩ = some (.int .i64 ((c : Int))) := Bt_23.cell 0; have ct_1_23 : W23.cell? ⟨bt, 1, none⟩ = some (.string bd) := Bt_23.cell 1))
          go_ret3
          exact ⟨splitP_err HR.out, bq_trans HB.out Hw23⟩
        · have hn0 : (((ts.length : Nat) : Int) == 256) = false := beq_eq_false_iff_ne.2 (by omega)
          have HN2 : Hid (ts.length + 1 ≤ 256) := Lib.hid (by have := HLN.out; omega)
          have HR : Hid (TG.split 256 s0.data.toList = prep (ts ++ [(c, b)]) (TG.split (256 - (ts ++ [(c, b)]).length) (bs r).data.toList)) := Lib.hid (by
            have := HN2.out
            rw [HSP.out, show 256 - ts.length = (256 - (ts.length + 1)) + 1 by omega, split_step hq hc, prep_prep, List.length_append]
            rfl)
          have HRS : Hid ((bs r).size ≤ 1000000) := Lib.hid (by
            have h1 := HTS.out.2.2
            have h2 := HSS.out
            have h3 := bytes_length s
            rw [bs_size]
            omega)
          have HC64 : Hid (-9223372036854775808 ≤ (c : Int) ∧ (c : Int) ≤ 9223372036854775807) := Lib.hid (by have := HTS.out.1; omega)
          have HOF : Hid (ofL (ts ++ [(c, b)]) = ofL ts ++ [((c : Int), bs b)]) := Lib.hid (by simp [ofL])
          have HLE : Hid (((ofL ts).map tagC).length ≤ 1000000) := Lib.hid (by rw [List.length_map, ofL_len]; have := HLN.out; omega)
          have HLN3 : Hid ((ts ++ [(c, b)]).length = ts.length + 1) := Lib.hid (by simp)
          have HLO : Hid ((ofL ts).length = ts.length) := Lib.hid (ofL_len ts)
          clear HSP hq HTS hc hn HSS HLN
          generalize bs b = bd at *
          generalize bs r = rd at *
          generalize ts.length = n at *
          generalize ofL ts = us at *
          go_wp2_with (first
            | (go_at_call 9; (with_reducible refine (HT.out _).mono ?_); rintro e W21 ⟨rfl, k21⟩; have Ov_21 := OM.keep k21; have Om_21 := SM.keep k21; have Hw21 := k21; clear k21 OM SM)
            | (refine wl_alloc 23 _ zeRw12 rfl rfl ?_; intro W22 bt Bt_22 l22 k22; have gt : wr.heap.size ≤ bt := Nat.le_trans Hw21.size l22; have lot := Nat.le_trans Om_21.le l22; have Ov_22 := Ov_21.keep k22; have Om_22 := Om_21.keep k22; have Hw22 := bq_trans Hw21 k22; clear l22 k22 Ov_21 Om_21 Hw21)
            | (refine wl_store 23 2 szRw12 _ _ rfl rfl _ rfl #[.int .i64 (c : Int), .string bd] rfl _ _ Bt_22 rfl rfl (by kernel_rfl) ?_; intro W23 Bt_23 T23; have Ov_23 := Ov_22.turned T23 (Or.inr lot); have Om_23 := Om_22.turned T23 (Or.inr lot); have Hw23 := T23.below Hw22 gt; clear T23 Ov_22 Om_22 Bt_22 Hw22; have ct_0_23 : W23.cell? ⟨bt, 0, none⟩ = some (.int .i64 ((c : Int))) := Bt_23.cell 0; have ct_1_23 : W23.cell? ⟨bt, 1, none⟩ = some (.string bd) := Bt_23.cell 1)
            | (refine wl_load 23 2 _ Try.underlying23 rfl szRw12 _ rfl rfl _ rfl _ _ Bt_23 rfl ?_)
            | (refine wlg_slice 33 23 1 _ _ (raw1_run (c : Int) bd) _ rfl rfl rfl ?_; intro W24 bn Bn_24 l24 k24; have gn : wr.heap.size ≤ bn := Nat.le_trans Hw23.size l24; have ntn : bt ≠ bn := Nat.ne_of_lt (Nat.lt_of_lt_of_le Bt_23.lt l24); have lon := Nat.le_trans Om_23.le l24; have Bt_24 := Bt_23.keep k24; have Ov_24 := Ov_23.keep k24; have Om_24 := Om_23.keep k24; have Hw24 := bq_trans Hw23 k24; clear l24 k24 Bt_23 Ov_23 Om_23 ct_0_23 ct_1_23 Hw23)
            | (refine wl_appC 33 23 2 _ Try.underlying33 raw_info12 rfl (by decide) _ _ rfl rfl w.heap.size _ rfl (us.map tagC) Ov_24.1 bn 1 _ _ rfl Bn_24 rfl (by kernel_rfl) HLE.out (Nat.le_trans hsz Om_24.le) ?_; intro vn W25 hO k25 hgr hat; have Hwn := Hw24; have OG := OwnG.snoc (t := ((c : Int), bd)) HGB.out HC64.out hO))
          have HVN : Hid (lenOf12 vn = n + 1) := Lib.hid (by
            obtain ⟨va2, vc2, hvn⟩ := own_len OG
            rw [hvn]
            show (us ++ [((c : Int), bd)]).length = n + 1
            rw [List.length_append, HLO.out]; rfl)
          go_roundw
          case rel => exact ⟨ts ++ [(c, b)], rd, rfl, HRS.out, by rw [HOF.out]; exact OG, by rw [HLN3.out]; exact HN2.out, (bq_trans HB.out Hwn).trans k25, HR.out⟩
          case measure => rw [HVN.out]; show 257 - (n + 1) < 257 - n; have := HN2.out; omega
end Go.Proofs.Ytffcfcgkpebdoaa
namespace Go.Proofs.Ytffcfcgkpebdoaa
open Go.RowKit
set_option linter.unusedVariables false
theorem putlittle_post {Q : Ending → World → Prop} {a : Act} {W : World} {g : Nat} {x y v : Value} (hbox : Box W g x y) (h6 : a.tmps[6]?.getD undef = .pointer (some ⟨g, 0, none⟩)) (h7 : a.tmps[7]?.getD undef = v)
    (hd : a.defers = []) (hQ : Q (.returned (.tuple #[.agg #[x, y], v])) W) : bodyPost Try.prog Try.f24 Q Exit.ret a W :=
  bodyPost_ret (v := .tuple #[.agg #[x, y], v]) (by simp [results, Try.results24, go_sem, h6, h7, hbox.1, hbox.2.1]) hd hQ
theorem islit_yes (n : Int) (w : World) (h0 : 1 ≤ n) (h1 : n ≤ 4) : Calls Try.prog 30 #[.int .i64 n] w fun e w' => e = .returned (.bool true) ∧ w = w' :=
  (islittle_any n w).mono fun e w' ⟨he, hw⟩ => ⟨by rw [he]; simp; omega, hw⟩
theorem islit_no (n : Int) (w : World) (h : n < 1 ∨ 4 < n) : Calls Try.prog 30 #[.int .i64 n] w fun e w' => e = .returned (.bool false) ∧ w = w' :=
  (islittle_any n w).mono fun e w' ⟨he, hw⟩ => ⟨by rw [he]; simp; omega, hw⟩
def LitRel (w : World) (g : Nat) (s : ByteArray) (f : Int) (v t : Nat) (i : Value) (wr : World) : Prop :=
  ∃ k : Nat, k ≤ t ∧ i = .int .i64 k ∧ BRow wr g ((B.le t v).take k ++ List.replicate (t - k) 0) ∧ Box wr w.heap.size (.string s) (.int .i64 f) ∧ Box wr (w.heap.size + 1) (.string ⟨#[]⟩) (.int .i64 0) ∧ Below w.heap.size w wr
theorem le_full (t v : Nat) : (B.le t v).take t ++ List.replicate (t - t) (0 : UInt8) = B.le t v := by
  rw [Nat.sub_self, List.replicate_zero, List.append_nil, List.take_of_length_le (by rw [B.le_len]; omega)]
theorem le_step (g t V k : Nat) (w : World) (hk : k < t) (h : BRow w g ((B.le t V).take k ++ List.replicate (t - k) 0)) :
    BRow (w.setCell ⟨g, k, none⟩ (.int .u8 ((V : Int) / 2 ^ (8 * k) % 256))) g ((B.le t V).take (k + 1) ++ List.replicate (t - (k + 1)) 0) := by
  have hl := B.le_len t V
  have hk' : k < (B.le t V).length := by omega
  rw [← list_step (B.le t V) t k hl hk hk']
  have e : (V : Int) / 2 ^ (8 * k) % 256 = ((B.le t V)[k].toNat : Int) := by rw [B.le_get t V k hk hk', div_pow]; omega
  rw [e]
  exact h.set (by simp [hl]; omega) _
def ltR (s : ByteArray) (v n : Nat) : Value := .tuple #[.agg #[.string (s ++ bs (B.le n v)), .int .i64 0], .int .i64 0]
def ltOk (v n : Int) : Bool := decide (1 ≤ n) && decide (n ≤ 4) && decide (0 ≤ v) && decide (v.toNat < B.P2 (8 * n.toNat))
theorem putlittle_bad (s : ByteArray) (f v n : Int) (w : World) (h : n < 1 ∨ 4 < n ∨ v < 0) :
    Calls Try.prog 24 #[.agg #[.string s, .int .i64 f], .int .i64 v, .int .i64 n] w fun e w' => e = .returned errW ∧ Below w.heap.size w w' := by
  have HH := Lib.hid (box2_now w (.string s) (.int .i64 f) (.string ⟨#[]⟩) (.int .i64 0) 47 47).2.2
  by_cases hn : n < 1 ∨ 4 < n
  · have HN := Lib.hid hn
    clear hn h
    go_enter Try.func24, Try.ntmps24
    go_wp2_with fail
    refine (islit_no n _ HN.out).mono ?_
    rintro e w1 ⟨rfl, rfl⟩
    go_wp2_with fail
    exact bodyPost_ret (v := errW) (by simp [results, Try.results24, go_sem, errW]) rfl ⟨rfl, HH.out⟩
  · have hv : v < 0 := by omega
    have n0 : 1 ≤ n := by omega
    have n1 : n ≤ 4 := by omega
    clear hn h
    go_enter Try.func24, Try.ntmps24
    go_wp2_with fail
    refine (islit_yes n _ n0 n1).mono ?_
    rintro e w1 ⟨rfl, rfl⟩
    go_wp2_with fail
    exact bodyPost_ret (v := errW) (by simp [results, Try.results24, go_sem, errW]) rfl ⟨rfl, HH.out⟩
set_option maxHeartbeats 1000000 in
theorem putlittle_nat (s : ByteArray) (f : Int) (v n : Nat) (w : World) (hs : s.size ≤ 1099511627776) (n0 : 1 ≤ n) (hn : n ≤ 4) :
    Calls Try.prog 24 #[.agg #[.string s, .int .i64 f], .int .i64 v, .int .i64 n] w fun e w' => e = .returned (if v < B.P2 (8 * n) then ltR s v n else errW) ∧ Below w.heap.size w w' := by
  have hpb : B.P2 (8 * n) ≤ 4294967296 := B.P2_le (b := 32) (by omega)
  have e2 : wrap64 (2 ^ (8 * n)) = (B.P2 (8 * n) : Int) := by rw [P2_cast]; exact i64_id _ (by omega) (by omega)
  by_cases hv : v < B.P2 (8 * n)
  · rw [if_pos hv]
    have hb : decide (wrap64 (2 ^ (8 * n)) ≤ (v : Int)) = false := by rw [e2]; simp; omega
    have hv2 : v < 4294967296 := by omega
    clear e2 hpb
    have HV := Lib.hid hv
    clear hv
    obtain ⟨C, D, H⟩ := box2_now w (.string s) (.int .i64 f) (.string ⟨#[]⟩) (.int .i64 0) 47 47
    go_enter Try.func24, Try.ntmps24
    go_wp2_with fail
    refine (islit_yes n _ (by omega) (by omega)).mono ?_
    rintro e w1 ⟨rfl, rfl⟩
    go_upto_region 3 with (fail)
    generalize (w.alloc (.cells #[.string s, .int .i64 f] 47)).alloc (.cells #[.string ⟨#[]⟩, .int .i64 0] 47) = w1 at C D H ⊢
    have hz : w.heap.size + 1 < w1.heap.size := D.2.2.2.2
    have hmk := made_bytes (n : Int) n rfl (by omega) w1
    have BM := Lib.hid (brow_made w1 n)
    have HMB := Lib.hid (bq_alloc (bq_refl w1) (.cells (madeCells #[.int .u8 0] n) 5))
    generalize w1.alloc (.cells (madeCells #[.int .u8 0] n) 5) = W at hmk BM HMB
    have CC := Lib.hid (C.keep HMB.out)
    have DD := Lib.hid (D.keep HMB.out)
    have H2 := Lib.hid (bq_trans H HMB.out)
    clear C D H
    go_wp2_with fail
    clear hmk
    go_loopw [29] (fun i wr => LitRel w w1.heap.size s f v n i wr) (fun i _ => n - (intOf i).toNat)
    case atStart => exact ⟨0, by omega, rfl, by simpa using BM.out, CC.out, DD.out, H2.out⟩
    case round =>
      obtain ⟨k, hk, rfl, hrow, hc0, hd0, hbel⟩ := hrel
      by_cases hlt : k < n
      · have hkl : k < ((B.le n v).take k ++ List.replicate (n - k) (0 : UInt8)).length := by simp [B.le_len]; omega
        have hc := (hrow.2 k hkl).1
        have hf := (hrow.2 k hkl).2
        have HR := Lib.hid (le_step w1.heap.size n v k wr hlt hrow)
        have HC := Lib.hid hc0
        have HD := Lib.hid hd0
        have HBEL := Lib.hid hbel
        clear hrow hc0 hd0 hbel
        go_wp2
        go_roundw
        case rel => exact ⟨k + 1, by omega, by go_num, HR.out, HC.out.far (by simp; omega) _, HD.out.far (by simp; omega) _, bq_set HBEL.out _ (by simp; omega) _⟩
        case measure => simp [intOf]; omega
      · obtain rfl : k = n := by omega
        rw [le_full] at hrow
        have hconv := hrow.str k
        rw [B.le_len] at hconv
        have hsz : (bs (B.le k v)).size ≤ 1099511627776 := by rw [bs_size, B.le_len]; omega
        have HP := Lib.hid (fun w => putbytes_any s (bs (B.le k v)) f w hs hsz)
        generalize htl : bs (B.le k v) = tl at HP hconv hsz
        have HTL := Lib.hid htl
        clear htl
        have HD := Lib.hid hd0
        have HBEL := Lib.hid hbel
        obtain ⟨c0, c1, f0, f1, cz⟩ := hc0
        clear hrow hbel hd0
        go_wp2_with fail
        refine (HP.out _).mono ?_
        rintro e w2 ⟨rfl, hb2⟩
        obtain ⟨d0, d1, g0, g1, hz'⟩ := HD.out.keep hb2
        have H3 := Lib.hid (bq_trans HBEL.out hb2)
        clear hb2
        go_wp2_with fail
        exact putlittle_post ((Box.set0 ⟨d0, d1, g0, g1, hz'⟩ _).set1 _) rfl rfl rfl ⟨by rw [ltR, HTL.out]; rfl, bq_set (bq_set H3.out _ (by simp) _) _ (by simp) _⟩
  · rw [if_neg hv]
    have hb : decide (wrap64 (2 ^ (8 * n)) ≤ (v : Int)) = true := by rw [e2]; simp; omega
    clear e2
    go_enter Try.func24, Try.ntmps24
    go_wp2_with fail
    refine (islit_yes n _ (by omega) (by omega)).mono ?_
    rintro e w1 ⟨rfl, rfl⟩
    go_wp2_with fail
    exact bodyPost_ret (v := errW) (by simp [results, Try.results24, go_sem, errW]) rfl ⟨rfl, (box2_now w _ _ _ _ _ _).2.2⟩
theorem putlittle_any (s : ByteArray) (f v n : Int) (w : World) (hs : s.size ≤ 1099511627776) :
    Calls Try.prog 24 #[.agg #[.string s, .int .i64 f], .int .i64 v, .int .i64 n] w fun e w' => e = .returned (if ltOk v n = true then ltR s v.toNat n.toNat else errW) ∧ Below w.heap.size w w' := by
  by_cases h : 1 ≤ n ∧ n ≤ 4 ∧ 0 ≤ v
  · obtain ⟨N, rfl⟩ := Int.eq_ofNat_of_zero_le (show 0 ≤ n by omega)
    obtain ⟨V, rfl⟩ := Int.eq_ofNat_of_zero_le h.2.2
    have hp := putlittle_nat s f V N w hs (by omega) (by omega)
    have e : ltOk V N = decide (V < B.P2 (8 * N)) := by simp [ltOk]; omega
    rw [e]
    simpa using hp
  · have e : ltOk v n = false := by
      unfold ltOk
      by_cases h1 : 1 ≤ n <;> by_cases h2 : n ≤ 4 <;> by_cases h3 : 0 ≤ v <;> simp [h1, h2, h3] <;> exact absurd ⟨h1, h2, h3⟩ h
    rw [e]
    exact putlittle_bad s f v n w (by omega)
end Go.Proofs.Ytffcfcgkpebdoaa
namespace Go.Proofs.Ytffcfcgkpebdoaa.Det
open Go
set_option linter.unusedVariables false
def Tells (P : Program) (ops : Array Oper) (S : World → Prop) (o : Oper) (v : Value) (a : Act) : Prop :=
  (Region.wanted o (yielded ops a.tmps) = true ∧ ∀ w, S w →
    (∃ w', (execOp a.eval o).run P w = .ok (.value v) w' ∧ S w') ∨
    (∃ f args w', (execOp a.eval o).run P w = .ok (.enter f args) w' ∧ Calls P f args w' fun e w'' => e = .returned v ∧ S w'')) ∨
  (Region.wanted o (yielded ops a.tmps) = false ∧ v = undef)
section
variable {P : Program} {ops : Array Oper} {Q : Exit → Act → World → Prop} {S : World → Prop} {md : Region.Mode}
theorem Tells.of_same {o : Oper} {v : Value} {a a' : Act} (h : Tells P ops S o v a) (he : execOp a'.eval o = execOp a.eval o) (hw : Region.wanted o (yielded ops a'.tmps) = Region.wanted o (yielded ops a.tmps)) : Tells P ops S o v a' := by
  unfold Tells at *
  rw [he, hw]
  exact h
theorem Tells.wpOp {i : Nat} {o : Oper} {v : Value} {a : Act} {w : World} {K : Act → World → Prop} (hi : ops[i]? = some o) (hy : Tells P ops S o v a) (hS : S w) (h : ∀ w', S w' → K (a.put o.dst v) w') : wpOp P ops Q i K a w := by
  unfold Go.wpOp
  simp only [hi]
  rcases hy with ⟨hw, hv⟩ | ⟨hw, rfl⟩
  · rw [if_pos hw]
    refine .inl ?_
    unfold Oper.wp
    rcases hv w hS with ⟨w', hr, hs⟩ | ⟨f, args, w', hr, hc⟩
    · rw [hr]; exact h w' hs
    · rw [hr]
      refine Calls.mono hc fun e w'' he => ?_
      obtain ⟨rfl, hs⟩ := he
      exact h w'' hs
  · rw [if_neg (by rw [hw]; decide)]
    exact h w hS
def wpDet (P : Program) (ops : Array Oper) (Q : Exit → Act → World → Prop) (S : World → Prop) : List Oper → Act → Prop
  | [], a => ∀ w, S w → Q .normal a w
  | o :: rest, a => ∃ v, Tells P ops S o v a ∧ wpDet P ops Q S rest (a.put o.dst v)
def detB (md : Region.Mode) (ops : Array Oper) : Bool :=
  Region.noSelect ops && (List.range ops.size).all fun i => match ops[i]? with
    | none => true
    | some x => (x.after.all fun e => !Region.binds md e || decide (e.on < i)) && (List.range ops.size).all fun j => match ops[j]? with
      | none => true
      | some y => match y.dst with
        | none => true
        | some d => (!(x.looksAt ops).contains d || (decide (j < i) && x.after.any fun e => Region.binds md e && e.on == j) || (decide (i < j) && y.after.any fun e => Region.binds md e && e.on == i)) && (i == j || x.dst != some d)
structure Fit (md : Region.Mode) (ops : Array Oper) : Prop where
  sel : ∀ (j : Nat) (o : Oper) cs b, ops[j]? = some o → o.op ≠ .select cs b
  back : ∀ (i : Nat) (x : Oper), ops[i]? = some x → ∀ e ∈ x.after, Region.binds md e = true → e.on < i
  looks : ∀ (i j : Nat) (x y : Oper) (d : Tmp), ops[i]? = some x → ops[j]? = some y → y.dst = some d → d ∈ x.looksAt ops → (j < i ∧ ∃ e ∈ x.after, Region.binds md e = true ∧ e.on = j) ∨ (i < j ∧ ∃ e ∈ y.after, Region.binds md e = true ∧ e.on = i)
  once : ∀ (i j : Nat) (x y : Oper) (d : Tmp), ops[i]? = some x → ops[j]? = some y → i ≠ j → y.dst = some d → x.dst ≠ some d
theorem fit_of (h : detB md ops = true) : Fit md ops := by
  unfold detB at h
  rw [Bool.and_eq_true, List.all_eq_true] at h
  obtain ⟨h0, h⟩ := h
  have lt : ∀ {i : Nat} {x : Oper}, ops[i]? = some x → i ∈ List.range ops.size := fun hx => List.mem_range.2 (Array.getElem?_eq_some_iff.1 hx).1
  refine ⟨Region.noSelect_spec h0, fun i x hx e he hb => ?_, fun i j x y d hx hy hd hl => ?_, fun i j x y d hx hy hij hd => ?_⟩
  · have := h i (lt hx)
    simp only [hx, Bool.and_eq_true, Array.all_eq_true_iff_forall_mem] at this
    have := this.1 e he
    simpa [hb] using this
  · have := h i (lt hx)
    simp only [hx, Bool.and_eq_true, List.all_eq_true] at this
    have := this.2 j (lt hy)
    simp only [hy, hd, Bool.and_eq_true, Bool.or_eq_true, Bool.not_eq_true', decide_eq_true_eq] at this
    rcases this.1 with (h1 | ⟨h1, h2⟩) | ⟨h1, h2⟩
    · rw [List.contains_iff_mem.2 hl] at h1; cases h1
    · obtain ⟨e, he, hb⟩ := Array.any_eq_true'.1 h2
      simp only [Bool.and_eq_true, beq_iff_eq] at hb
      exact Or.inl ⟨h1, e, he, hb.1, hb.2⟩
    · obtain ⟨e, he, hb⟩ := Array.any_eq_true'.1 h2
      simp only [Bool.and_eq_true, beq_iff_eq] at hb
      exact Or.inr ⟨h1, e, he, hb.1, hb.2⟩
  · have := h i (lt hx)
    simp only [hx, Bool.and_eq_true, List.all_eq_true] at this
    have := this.2 j (lt hy)
    simp only [hy, hd, Bool.and_eq_true, Bool.or_eq_true, beq_iff_eq] at this
    rcases this.2 with h1 | h1
    · exact absurd h1 hij
    · simpa using h1
theorem eval_same {a b : Act} {x : Operand} (h : ∀ t, x = .tmp t → b.tmps[t]? = a.tmps[t]?) : b.eval x = a.eval x := by
  cases x with
  | tmp t => simp only [Act.eval, Array.getD_eq_getD_getElem?, h t rfl]
  | _ => rfl
theorem exec_same {o : Oper} {a b : Act} (hs : ∀ cs b, o.op ≠ .select cs b) (h : ∀ t ∈ o.looksAt ops, b.tmps[t]? = a.tmps[t]?) : execOp b.eval o = execOp a.eval o :=
  execOp_congr o hs fun x hx => eval_same fun t ht => h t (by
    subst ht
    exact List.mem_append_left _ (List.mem_filterMap.2 ⟨.tmp t, by simpa using hx, rfl⟩))
theorem wanted_same {o : Oper} {a b : Act} (h : ∀ t ∈ o.looksAt ops, b.tmps[t]? = a.tmps[t]?) : Region.wanted o (yielded ops b.tmps) = Region.wanted o (yielded ops a.tmps) := by
  unfold Region.wanted
  cases hg : o.guard with
  | none => rfl
  | some gw =>
    obtain ⟨g, want⟩ := gw
    have hy : yielded ops b.tmps g = yielded ops a.tmps g := by
      unfold yielded
      cases ht : (ops[g]?).bind (·.dst) with
      | none => rfl
      | some t =>
        have := h t (List.mem_append_right _ (by simp [hg, ht]))
        simp only [Option.bind_some, this]
    simp only [hy]
theorem put_get {a : Act} {d : Option Tmp} {v : Value} {t : Tmp} (h : d ≠ some t) : (a.put d v).tmps[t]? = a.tmps[t]? := by
  cases d with
  | none => rfl
  | some d => exact Array.getElem?_setIfInBounds_ne (fun e => h (by rw [e]))
theorem put_size (a : Act) (d : Option Tmp) (v : Value) : (a.put d v).tmps.size = a.tmps.size := by
  cases d <;> simp [Act.put]
theorem put_df (a : Act) (d : Option Tmp) (v : Value) : (a.put d v).defers = a.defers := by
  cases d <;> rfl
theorem put_at {a : Act} {d : Tmp} {v : Value} (h : d < a.tmps.size) : (a.put (some d) v).tmps[d]? = some v := by
  simp [Act.put, h]
structure At (ops : Array Oper) (a0 : Act) (V : Nat → Value) (D : Nat → Prop) (b : Act) : Prop where
  size : b.tmps.size = a0.tmps.size
  defers : b.defers = a0.defers
  old : ∀ t : Tmp, (∀ (i : Nat) (o : Oper), D i → ops[i]? = some o → o.dst ≠ some t) → b.tmps[t]? = a0.tmps[t]?
  told : ∀ (i : Nat) (o : Oper) (d : Tmp), D i → ops[i]? = some o → o.dst = some d → d < a0.tmps.size → b.tmps[d]? = some (V i)
theorem At.same (F : Fit md ops) {a0 b c : Act} {V : Nat → Value} {D E : Nat → Prop} (hb : At ops a0 V D b) (hc : At ops a0 V E c) {j : Nat} {o : Oper} (ho : ops[j]? = some o)
    (hD : ∀ e ∈ o.after, Region.binds md e = true → D e.on) (hE : ∀ e ∈ o.after, Region.binds md e = true → E e.on)
    (nD : ∀ (i : Nat) (y : Oper), ops[i]? = some y → (∃ e ∈ y.after, Region.binds md e = true ∧ e.on = j) → ¬ D i) (nE : ∀ (i : Nat) (y : Oper), ops[i]? = some y → (∃ e ∈ y.after, Region.binds md e = true ∧ e.on = j) → ¬ E i) :
    ∀ t ∈ o.looksAt ops, b.tmps[t]? = c.tmps[t]? := by
  intro t ht
  by_cases hw : ∃ (i : Nat) (y : Oper), ops[i]? = some y ∧ y.dst = some t
  · obtain ⟨i, y, hy, hyd⟩ := hw
    have uniq : ∀ (i' : Nat) (y' : Oper), ops[i']? = some y' → y'.dst = some t → i' = i := fun i' y' hy' hd' => by
      apply Decidable.byContradiction
      intro hne
      exact F.once i' i y' y t hy' hy hne hyd hd'
    rcases F.looks j i o y t ho hy hyd ht with ⟨_, e, he, hbd, hon⟩ | ⟨_, hex⟩
    · have h1 := hD e he hbd
      have h2 := hE e he hbd
      rw [hon] at h1 h2
      by_cases hsz : t < a0.tmps.size
      · rw [hb.told i y t h1 hy hyd hsz, hc.told i y t h2 hy hyd hsz]
      · rw [Array.getElem?_eq_none (by rw [hb.size]; exact Nat.le_of_not_lt hsz), Array.getElem?_eq_none (by rw [hc.size]; exact Nat.le_of_not_lt hsz)]
    · rw [hb.old t fun i' y' hd' hy' hyt => nD i y hy hex (uniq i' y' hy' hyt ▸ hd'), hc.old t fun i' y' hd' hy' hyt => nE i y hy hex (uniq i' y' hy' hyt ▸ hd')]
  · rw [hb.old t fun i y _ hy hyt => hw ⟨i, y, hy, hyt⟩, hc.old t fun i y _ hy hyt => hw ⟨i, y, hy, hyt⟩]
theorem At.step (F : Fit md ops) {a0 b : Act} {V : Nat → Value} {D E : Nat → Prop} {j : Nat} {o : Oper} (hb : At ops a0 V D b) (ho : ops[j]? = some o) (hE : ∀ i, E i ↔ D i ∨ i = j) : At ops a0 V E (b.put o.dst (V j)) := by
  refine ⟨by rw [put_size, hb.size], by rw [put_df, hb.defers], fun t ht => ?_, fun i y d hi hy hd hlt => ?_⟩
  · rw [put_get (ht j o ((hE j).2 (Or.inr rfl)) ho)]
    exact hb.old t fun i y hi hy => ht i y ((hE i).2 (Or.inl hi)) hy
  · by_cases hij : i = j
    · subst hij
      rw [ho] at hy
      cases hy
      rw [hd, put_at (by rw [hb.size]; exact hlt)]
    · rw [put_get (F.once j i o y d ho hy (Ne.symm hij) hd)]
      exact hb.told i y d (((hE i).1 hi).resolve_right hij) hy hd hlt
theorem At.to {a0 b : Act} {V V' : Nat → Value} {D : Nat → Prop} (hb : At ops a0 V D b) (h : ∀ i, D i → V i = V' i) : At ops a0 V' D b :=
  ⟨hb.size, hb.defers, hb.old, fun i y d hi hy hd hlt => by rw [← h i hi]; exact hb.told i y d hi hy hd hlt⟩
theorem ends (F : Fit md ops) (a0 : Act) : ∀ (l : List Oper) (k : Nat) (a : Act) (V0 : Nat → Value), ops.toList.drop k = l → At ops a0 V0 (· < k) a → wpDet P ops Q S l a →
    ∃ (V : Nat → Value) (af : Act), (∀ i, i < k → V i = V0 i) ∧ (∀ w, S w → Q .normal af w) ∧ At ops a0 V (· < ops.size) af ∧
      ∀ j o, k ≤ j → ops[j]? = some o → ∃ c, At ops a0 V (· < j) c ∧ Tells P ops S o (V j) c := by
  intro l
  induction l with
  | nil =>
    intro k a V0 hl hA h
    have h1 : ops.size ≤ k := by
      have := congrArg List.length hl
      simp at this
      omega
    refine ⟨V0, a, fun _ _ => rfl, h, ⟨hA.size, hA.defers, fun t ht => hA.old t fun i o _ ho => ht i o (Array.getElem?_eq_some_iff.1 ho).1 ho, fun i y d hi hy hd hlt => hA.told i y d (by omega) hy hd hlt⟩, fun j o hj ho => ?_⟩
    have := (Array.getElem?_eq_some_iff.1 ho).1
    omega
  | cons o l ih =>
    intro k a V0 hl hA h
    obtain ⟨v, hv, hrest⟩ := h
    have hk : ops[k]? = some o := by
      have := congrArg List.head? hl
      simpa [List.head?_drop] using this
    have hl' : ops.toList.drop (k + 1) = l := by
      rw [← List.drop_drop, hl]; rfl
    have hA1 : At ops a0 (fun i => if i = k then v else V0 i) (· < k) a := hA.to fun i hi => (if_neg (by omega)).symm
    have hA2 := hA1.step F (E := (· < k + 1)) hk (fun i => by omega)
    have ek : (if k = k then v else V0 k) = v := if_pos rfl
    rw [ek] at hA2
    obtain ⟨V, af, g1, g2, g3, g4⟩ := ih (k + 1) _ _ hl' hA2 hrest
    have hVk : V k = v := (g1 k (by omega)).trans ek
    refine ⟨V, af, fun i hi => (g1 i (by omega)).trans (if_neg (by omega)), g2, g3, fun j x hj hx => ?_⟩
    by_cases hjk : j = k
    · subst hjk
      rw [hk] at hx
      cases hx
      exact ⟨a, hA1.to fun i hi => (g1 i (by omega)).symm, by rw [hVk]; exact hv⟩
    · exact g4 j x (by omega) hx
theorem count_set {l : List Bool} {i : Nat} (h : l[i]? = some false) : (l.set i true).count false + 1 = l.count false := by
  induction l generalizing i with
  | nil => simp at h
  | cons b l ih =>
    cases i with
    | zero =>
      simp only [List.getElem?_cons_zero, Option.some.injEq] at h
      subst h
      simp
    | succ i =>
      have := ih (i := i) (by simpa using h)
      rw [List.set_cons_succ, List.count_cons, List.count_cons]
      omega
theorem anyOrder (F : Fit md ops) {a0 af : Act} {V : Nat → Value} (hQ : ∀ w, S w → Q .normal af w) (hf : At ops a0 V (· < ops.size) af) (hT : ∀ (j : Nat) (o : Oper), ops[j]? = some o → ∃ c, At ops a0 V (· < j) c ∧ Tells P ops S o (V j) c) :
    ∀ (fuel : Nat) (listed : Array Bool) (b : Act) (w : World), listed.size = ops.size → listed.toList.count false ≤ fuel → At ops a0 V (fun i => listed[i]? = some true) b →
      (∀ (j : Nat) (o : Oper), ops[j]? = some o → listed[j]? = some true → ∀ e ∈ o.after, Region.binds md e = true → listed[e.on]? = some true) → S w → wpAny P md ops Q fuel listed b w := by
  have done : ∀ (listed : Array Bool) (b : Act), listed.size = ops.size → At ops a0 V (fun i => listed[i]? = some true) b → Region.ready md ops listed = [] → b = af := by
    intro listed b hl hb hr
    have none : ∀ n j : Nat, j < n → listed[j]? ≠ some false := by
      intro n
      induction n with
      | zero => intro j hj; omega
      | succ n ih =>
        intro j hj hf
        by_cases hjn : j < n
        · exact ih j hjn hf
        · have hjn : j = n := by omega
          subst hjn
          have hlt : j < ops.size := by rw [← hl]; exact (Array.getElem?_eq_some_iff.1 hf).1
          have hj : j ∈ Region.ready md ops listed := mem_ready.2 ⟨by simp [hf], ops[j], Array.getElem?_eq_getElem hlt, fun e he hbd => by
            have he := F.back j ops[j] (Array.getElem?_eq_getElem hlt) e he hbd
            have h1 := ih e.on he
            have h2 : e.on < listed.size := by omega
            rw [Array.getElem?_eq_getElem h2] at h1
            rw [Array.getD_eq_getD_getElem?, Array.getElem?_eq_getElem h2]
            cases hc : listed[e.on] with
            | true => rfl
            | false => rw [hc] at h1; exact absurd rfl h1⟩
          rw [hr] at hj
          cases hj
    have all : ∀ j : Nat, j < ops.size → listed[j]? = some true := fun j hj => by
      have h1 := none (j + 1) j (by omega)
      have h2 : j < listed.size := by omega
      rw [Array.getElem?_eq_getElem h2] at h1 ⊢
      cases hc : listed[j] with
      | true => rfl
      | false => rw [hc] at h1; exact absurd rfl h1
    have ht : b.tmps = af.tmps := Array.ext_getElem? fun t => by
      by_cases hw : ∃ (i : Nat) (y : Oper), ops[i]? = some y ∧ y.dst = some t
      · obtain ⟨i, y, hy, hyd⟩ := hw
        have hi := (Array.getElem?_eq_some_iff.1 hy).1
        by_cases hsz : t < a0.tmps.size
        · rw [hb.told i y t (all i hi) hy hyd hsz, hf.told i y t hi hy hyd hsz]
        · rw [Array.getElem?_eq_none (by rw [hb.size]; exact Nat.le_of_not_lt hsz), Array.getElem?_eq_none (by rw [hf.size]; exact Nat.le_of_not_lt hsz)]
      · rw [hb.old t fun i y _ hy hyt => hw ⟨i, y, hy, hyt⟩, hf.old t fun i y _ hy hyt => hw ⟨i, y, hy, hyt⟩]
    have hd := hb.defers.trans hf.defers.symm
    cases b; cases af
    simp only at ht hd
    rw [ht, hd]
  intro fuel
  induction fuel with
  | zero =>
    intro listed b w hl hc hb hcl hS
    have hr : Region.ready md ops listed = [] := by
      cases hr : Region.ready md ops listed with
      | nil => rfl
      | cons i is =>
        have hi : i ∈ Region.ready md ops listed := by rw [hr]; simp
        obtain ⟨h0, o, ho, _⟩ := mem_ready.1 hi
        have hlt : i < listed.size := by rw [hl]; exact (Array.getElem?_eq_some_iff.1 ho).1
        have : false ∈ listed.toList := by
          rw [Array.getD_eq_getD_getElem?, Array.getElem?_eq_getElem hlt] at h0
          have h0 : listed[i] = false := h0
          rw [← h0]
          exact Array.getElem_mem_toList hlt
        have := List.count_pos_iff.2 this
        omega
    obtain rfl := done listed b hl hb hr
    exact ⟨hr, hQ w hS⟩
  | succ fuel ih =>
    intro listed b w hl hc hb hcl hS
    refine ⟨fun hr => ?_, fun i hi => ?_⟩
    · obtain rfl := done listed b hl hb hr
      exact hQ w hS
    · obtain ⟨h0, o, ho, hall⟩ := mem_ready.1 hi
      have hlt : i < listed.size := by rw [hl]; exact (Array.getElem?_eq_some_iff.1 ho).1
      have hif : listed[i]? = some false := by
        rw [Array.getElem?_eq_getElem hlt]
        rw [Array.getD_eq_getD_getElem?, Array.getElem?_eq_getElem hlt] at h0
        have h0 : listed[i] = false := h0
        rw [h0]
      have hall' : ∀ e ∈ o.after, Region.binds md e = true → listed[e.on]? = some true := fun e he hbd => by
        have h1 := hall e he hbd
        rw [Array.getD_eq_getD_getElem?] at h1
        cases hq : listed[e.on]? with
        | none => rw [hq] at h1; cases h1
        | some q => rw [hq] at h1; exact congrArg some h1
      obtain ⟨c, hcA, hv⟩ := hT i o ho
      have same := hb.same F hcA ho hall' (fun e he hbd => F.back i o ho e he hbd) (fun k y hy ⟨e, he, hbd, hon⟩ hk => by
        have := hcl k y hy hk e he hbd
        rw [hon, hif] at this
        cases this) (fun k y hy ⟨e, he, hbd, hon⟩ hk => by
        have := F.back k y hy e he hbd
        omega)
      have hlist : ∀ k : Nat, (listed.setIfInBounds i true)[k]? = some true ↔ listed[k]? = some true ∨ k = i := fun k => by
        by_cases hki : k = i
        · subst hki
          simp [hlt]
        · rw [Array.getElem?_setIfInBounds_ne (Ne.symm hki)]
          exact ⟨Or.inl, fun h => h.resolve_right hki⟩
      refine (hv.of_same (exec_same (fun cs b => F.sel i o cs b ho) same) (wanted_same same)).wpOp ho hS fun w' hS' => ?_
      refine ih _ _ w' (by simp [hl]) ?_ (hb.step F ho hlist) (fun k y hy hk e he hbd => ?_) hS'
      · have := count_set (l := listed.toList) (i := i) (by rw [Array.getElem?_toList]; exact hif)
        rw [Array.toList_setIfInBounds]
        omega
      · refine (hlist _).2 (Or.inl ?_)
        rcases (hlist k).1 hk with hk | rfl
        · exact hcl k y hy hk e he hbd
        · rw [ho] at hy
          cases hy
          exact hall' e he hbd
theorem wp_region_det {id : Nat} {a : Act} {w : World} {l : List Oper} (hm : P.follows .mixedOrders = true) (hb : detB .any l.toArray = true) (hS : S w.drew) (h : wpDet P l.toArray Q S l a) : (Code.region id l.toArray true).wp P Q a w := by
  have F := fit_of hb
  obtain ⟨V, af, _, g2, g3, g4⟩ := ends F a l 0 a (fun _ => undef) (by simp) ⟨rfl, rfl, fun t _ => rfl, fun i y d hi => absurd hi (by omega)⟩ h
  have no : ∀ k : Nat, (Array.replicate l.toArray.size false)[k]? ≠ some true := fun k hk => by
    rw [Array.getElem?_replicate] at hk
    split at hk
    · cases hk
    · cases hk
  exact wp_region_any hm (anyOrder F g2 g3 (fun j o ho => g4 j o (Nat.zero_le _) ho) _ _ _ _ (by simp) (by simp) ⟨rfl, rfl, fun t _ => rfl, fun i y d hi => absurd hi (no i)⟩ (fun k y hy hk => absurd hk (no k)) hS)
end
end Go.Proofs.Ytffcfcgkpebdoaa.Det
namespace Go.Proofs.Ytffcfcgkpebdoaa.Det
open Go Go.RowKit
set_option linter.unusedVariables false
section
variable {P : Program} {ops : Array Oper} {Q : Exit → Act → World → Prop} {S : World → Prop} {rest : List Oper} {o : Oper} {a : Act}
theorem det_take {v : Value} (hw : Region.wanted o (yielded ops a.tmps) = true) (hv : ∀ w, S w → (execOp a.eval o).run P w = .ok (.value v) w) (h : wpDet P ops Q S rest (a.put o.dst v)) : wpDet P ops Q S (o :: rest) a :=
  ⟨v, .inl ⟨hw, fun w hS => .inl ⟨w, hv w hS, hS⟩⟩, h⟩
theorem det_call {f : FuncId} {args : Array Value} {v : Value} (hw : Region.wanted o (yielded ops a.tmps) = true) (hr : ∀ w, S w → (execOp a.eval o).run P w = .ok (.enter f args) w)
    (hc : ∀ w, S w → Calls P f args w fun e w' => e = .returned v ∧ S w') (h : wpDet P ops Q S rest (a.put o.dst v)) : wpDet P ops Q S (o :: rest) a :=
  ⟨v, .inl ⟨hw, fun w hS => .inr ⟨f, args, w, hr w hS, hc w hS⟩⟩, h⟩
theorem det_field (ty : TypeId) (x : Operand) (i : Nat) (u v : Value) (ho : o.op = .field ty x i) (hw : Region.wanted o (yielded ops a.tmps) = true) (hx : a.eval x = u) (hr : ∀ w, (Instr.field ty u i).run P w = .ok v w) (h : wpDet P ops Q S rest (a.put o.dst v)) : wpDet P ops Q S (o :: rest) a :=
  det_take hw (fun w _ => by unfold execOp; simp only [ho, hx, Sem.run_bind, hr, Result.andThen_ok]; rfl) h
theorem det_nil (h : ∀ w, S w → Q .normal a w) : wpDet P ops Q S [] a := h
theorem det_load (ty : TypeId) (n : Nat) (d : TypeDesc) (hu : P.underlying ty = some d) (hd : (match d with | .struct _ | .array _ _ => true | _ => false) = true) (hi : (P.info? ty).map (·.size) = some n)
    (x : Operand) (ho : o.op = .load ty x) (hw : Region.wanted o (yielded ops a.tmps) = true) (b : Nat) (hx : a.eval x = .pointer (some ⟨b, 0, none⟩)) (cs : Array Value) (t : TypeId) (hB : ∀ w, S w → Blk w b cs t) (hn : cs.size = n)
    (h : wpDet P ops Q S rest (a.put o.dst (.agg cs))) : wpDet P ops Q S (o :: rest) a := by
  refine det_take hw (fun w hS => ?_) h
  have hr := run_loadVar_row (P := P) w b t ty cs (0, 0) d (hB w hS) hu hd (by rw [hi, hn])
  unfold execOp
  simp only [ho, hx, Instr.loadAt, Instr.sureAddr, Sem.run_bind, Sem.run_pure, Result.andThen_ok, hr]
end
end Go.Proofs.Ytffcfcgkpebdoaa.Det
namespace Go.Proofs.Ytffcfcgkpebdoaa
open Go.RowKit
set_option linter.unusedVariables false
set_option linter.unusedSimpArgs false
set_option maxRecDepth 100000
theorem szW12 : (Try.prog.info? 47).map (·.size) = some 2 := by kernel_rfl
theorem zeW12 (w : World) : (zeroValue 47).run Try.prog w = .ok (.agg #[.string ⟨#[]⟩, .int .i64 0]) w := Try.zeroValue47 w
theorem szR12 : (Try.prog.info? 23).map (·.size) = some 2 := by kernel_rfl
theorem zeR12 (w : World) : (zeroValue 23).run Try.prog w = .ok (.agg #[.int .i64 0, .string ⟨#[]⟩]) w := Try.zeroValue23 w
theorem within_any (v l m : Int) (w : World) : Calls Try.prog 17 #[.int .i64 v, .int .i64 l, .int .i64 m] w fun e w' => e = .returned (.bool (decide (l ≤ v) && decide (v ≤ m))) ∧ w = w' := by
  go_enter Try.func17, Try.ntmps17
  go_wp2
  all_goals (go_ret; exact ⟨ret_bool (by simp; try omega), rfl⟩)
theorem within_yes (v l m : Int) (w : World) (h : l ≤ v ∧ v ≤ m) : Calls Try.prog 17 #[.int .i64 v, .int .i64 l, .int .i64 m] w fun e w' => e = .returned (.bool true) ∧ w = w' :=
  (within_any v l m w).mono fun e w' ⟨he, hw⟩ => ⟨by rw [he]; simp; omega, hw⟩
theorem within_no (v l m : Int) (w : World) (h : v < l ∨ m < v) : Calls Try.prog 17 #[.int .i64 v, .int .i64 l, .int .i64 m] w fun e w' => e = .returned (.bool false) ∧ w = w' :=
  (within_any v l m w).mono fun e w' ⟨he, hw⟩ => ⟨by rw [he]; simp; omega, hw⟩
theorem putlit12 (s : ByteArray) (v n : Nat) (W : World) (hs : s.size ≤ 1000000) (h1 : 1 ≤ n) (h4 : n ≤ 4) (hv : v < B.P2 (8 * n)) : Calls Try.prog 24 #[.agg #[.string s, .int .i64 0], .int .i64 (v : Int), .int .i64 (n : Int)] W fun e w' => e = .returned (.tuple #[.agg #[.string (s ++ bs (B.le n v)), .int .i64 0], .int .i64 0]) ∧ Below W.heap.size W w' := by
  have h := putlittle_any s 0 (v : Int) n W (by omega)
  have e1 : ltOk (v : Int) n = true := by
    unfold ltOk
    rw [Int.toNat_natCast, Int.toNat_natCast]
    simp; omega
  rw [if_pos e1] at h
  exact h
theorem or12 (c m : Nat) (hc : c ≤ 1023) (hm : m ≤ 63) : bits BinOp.or IntKind.i64 ((c : Int) * 64) (m : Int) = ((64 * c + m : Nat) : Int) := by
  have e : (c : Int) * 64 = ((c * 64 : Nat) : Int) := by omega
  rw [e, i64_or_nat _ _ (by omega) (by omega), nat_join 6 (c * 64) m (Nat.mul_mod_left _ _) (by omega)]
  omega
theorem head_small (c : Nat) (b u2 : ByteArray) (w : World) (hc : c ≤ 1023) (hb : b.size < 63)
    (HP2 : Hid (∀ W, Calls Try.prog 24 #[.agg #[.string ⟨#[]⟩, .int .i64 0], .int .i64 (bits BinOp.or IntKind.i64 ((c : Int) * 64) (min (b.size : Int) 63)), .int .i64 2] W fun e w' => e = .returned (.tuple #[.agg #[.string u2, .int .i64 0], .int .i64 0]) ∧ Below W.heap.size W w')) :
    Calls Try.prog 19 #[.agg #[.int .i64 (c : Int), .string b]] w fun e w' => e = .returned (.agg #[.string u2, .int .i64 0]) ∧ Below w.heap.size w w' := by
  go_enter Try.func19, Try.ntmps19
  go_wp2_with (first
    | (refine wl_box 23 _ _ rfl rfl (show _ = Value.agg #[.int .i64 (c : Int), .string b] from rfl) ?_; intro W1 bx Bx_1 l1 k1; have gx : w.heap.size ≤ bx := l1; have Hw1 := k1; clear l1 k1)
    | (refine wl_alloc 47 _ zeW12 rfl rfl ?_; intro W2 br Br_2 l2 k2; have gr : w.heap.size ≤ br := Nat.le_trans Hw1.size l2; have nxr : bx ≠ br := Nat.ne_of_lt (Nat.lt_of_lt_of_le Bx_1.lt l2); have Bx_2 := Bx_1.keep k2; have Hw2 := bq_trans Hw1 k2; clear l2 k2 Bx_1 Hw1; have cx_0_2 : W2.cell? ⟨bx, 0, none⟩ = some (.int .i64 ((c : Int))) := Bx_2.cell 0; have cx_1_2 : W2.cell? ⟨bx, 1, none⟩ = some (.string b) := Bx_2.cell 1)
    | (go_at_call 24; (with_reducible refine (HP2.out _).mono ?_); rintro e W3 ⟨rfl, k3⟩; have Bx_3 := Bx_2.keep k3; have Br_3 := Br_2.keep k3; have Hw3 := bq_trans Hw2 k3; clear k3 Bx_2 Br_2 cx_0_2 cx_1_2 Hw2)
    | (refine wl_alloc 47 _ zeW12 rfl rfl ?_; intro W4 bw Bw_4 l4 k4; have gw : w.heap.size ≤ bw := Nat.le_trans Hw3.size l4; have nxw : bx ≠ bw := Nat.ne_of_lt (Nat.lt_of_lt_of_le Bx_3.lt l4); have nrw : br ≠ bw := Nat.ne_of_lt (Nat.lt_of_lt_of_le Br_3.lt l4); have Bx_4 := Bx_3.keep k4; have Br_4 := Br_3.keep k4; have Hw4 := bq_trans Hw3 k4; clear l4 k4 Bx_3 Br_3 Hw3)
    | (refine wl_store 47 2 szW12 _ _ rfl rfl _ rfl #[.string u2, .int .i64 0] rfl _ _ Bw_4 rfl rfl (by kernel_rfl) ?_; intro W5 Bw_5 T5; have Bx_5 := T5.blk Bx_4 nxw; have Br_5 := T5.blk Br_4 nrw; have Hw5 := T5.below Hw4 gw; clear T5 Bx_4 Br_4 Bw_4 Hw4)
    | (refine wl_load 47 2 _ Try.underlying47 rfl szW12 _ rfl rfl _ rfl _ _ Bw_5 rfl ?_)
    | (refine wl_store 47 2 szW12 _ _ rfl rfl _ rfl #[.string u2, .int .i64 0] rfl _ _ Br_5 rfl rfl (by kernel_rfl) ?_; intro W6 Br_6 T6; have Bx_6 := T6.blk Bx_5 nxr; have Bw_6 := T6.blk Bw_5 (Ne.symm nrw); have Hw6 := T6.below Hw5 gr; clear T6 Bx_5 Bw_5 Br_5 Hw5))
  exact post_cell Try.underlying47 rfl szW12 Try.results19 Br_6 rfl rfl rfl ⟨rfl, Hw6⟩
theorem head_great (c : Nat) (b u2 u4 : ByteArray) (w : World) (hc : c ≤ 1023) (hb : ¬ b.size < 63)
    (HP2 : Hid (∀ W, Calls Try.prog 24 #[.agg #[.string ⟨#[]⟩, .int .i64 0], .int .i64 (bits BinOp.or IntKind.i64 ((c : Int) * 64) (min (b.size : Int) 63)), .int .i64 2] W fun e w' => e = .returned (.tuple #[.agg #[.string u2, .int .i64 0], .int .i64 0]) ∧ Below W.heap.size W w'))
    (HP4 : Hid (∀ W, Calls Try.prog 24 #[.agg #[.string u2, .int .i64 0], .int .i64 (b.size : Int), .int .i64 4] W fun e w' => e = .returned (.tuple #[.agg #[.string u4, .int .i64 0], .int .i64 0]) ∧ Below W.heap.size W w')) :
    Calls Try.prog 19 #[.agg #[.int .i64 (c : Int), .string b]] w fun e w' => e = .returned (.agg #[.string u4, .int .i64 0]) ∧ Below w.heap.size w w' := by
  go_enter Try.func19, Try.ntmps19
  go_wp2_with (first
    | (refine wl_box 23 _ _ rfl rfl (show _ = Value.agg #[.int .i64 (c : Int), .string b] from rfl) ?_; intro W1 bx Bx_1 l1 k1; have gx : w.heap.size ≤ bx := l1; have Hw1 := k1; clear l1 k1)
    | (refine wl_alloc 47 _ zeW12 rfl rfl ?_; intro W2 br Br_2 l2 k2; have gr : w.heap.size ≤ br := Nat.le_trans Hw1.size l2; have nxr : bx ≠ br := Nat.ne_of_lt (Nat.lt_of_lt_of_le Bx_1.lt l2); have Bx_2 := Bx_1.keep k2; have Hw2 := bq_trans Hw1 k2; clear l2 k2 Bx_1 Hw1; have cx_0_2 : W2.cell? ⟨bx, 0, none⟩ = some (.int .i64 ((c : Int))) := Bx_2.cell 0; have cx_1_2 : W2.cell? ⟨bx, 1, none⟩ = some (.string b) := Bx_2.cell 1)
    | (go_at_call 24; (with_reducible refine (HP2.out _).mono ?_); rintro e W3 ⟨rfl, k3⟩; have Bx_3 := Bx_2.keep k3; have Br_3 := Br_2.keep k3; have Hw3 := bq_trans Hw2 k3; clear k3 Bx_2 Br_2 cx_0_2 cx_1_2 Hw2)
    | (refine wl_alloc 47 _ zeW12 rfl rfl ?_; intro W4 bw Bw_4 l4 k4; have gw : w.heap.size ≤ bw := Nat.le_trans Hw3.size l4; have nxw : bx ≠ bw := Nat.ne_of_lt (Nat.lt_of_lt_of_le Bx_3.lt l4); have nrw : br ≠ bw := Nat.ne_of_lt (Nat.lt_of_lt_of_le Br_3.lt l4); have Bx_4 := Bx_3.keep k4; have Br_4 := Br_3.keep k4; have Hw4 := bq_trans Hw3 k4; clear l4 k4 Bx_3 Br_3 Hw3)
    | (refine wl_store 47 2 szW12 _ _ rfl rfl _ rfl #[.string u2, .int .i64 0] rfl _ _ Bw_4 rfl rfl (by kernel_rfl) ?_; intro W5 Bw_5 T5; have Bx_5 := T5.blk Bx_4 nxw; have Br_5 := T5.blk Br_4 nrw; have Hw5 := T5.below Hw4 gw; clear T5 Bx_4 Br_4 Bw_4 Hw4)
    | (refine wl_load 47 2 _ Try.underlying47 rfl szW12 _ rfl rfl _ rfl _ _ Bw_5 rfl ?_)
    | (go_at_call 24; (with_reducible refine (HP4.out _).mono ?_); rintro e W6 ⟨rfl, k6⟩; have Bx_6 := Bx_5.keep k6; have Br_6 := Br_5.keep k6; have Bw_6 := Bw_5.keep k6; have Hw6 := bq_trans Hw5 k6; clear k6 Bx_5 Br_5 Bw_5 Hw5)
    | (refine wl_store 47 2 szW12 _ _ rfl rfl _ rfl #[.string u4, .int .i64 0] rfl _ _ Bw_6 rfl rfl (by kernel_rfl) ?_; intro W7 Bw_7 T7; have Bx_7 := T7.blk Bx_6 nxw; have Br_7 := T7.blk Br_6 nrw; have Hw7 := T7.below Hw6 gw; clear T7 Bx_6 Br_6 Bw_6 Hw6)
    | (refine wl_load 47 2 _ Try.underlying47 rfl szW12 _ rfl rfl _ rfl _ _ Bw_7 rfl ?_)
    | (refine wl_store 47 2 szW12 _ _ rfl rfl _ rfl #[.string u4, .int .i64 0] rfl _ _ Br_7 rfl rfl (by kernel_rfl) ?_; intro W8 Br_8 T8; have Bx_8 := T8.blk Bx_7 nxr; have Bw_8 := T8.blk Bw_7 (Ne.symm nrw); have Hw8 := T8.below Hw7 gr; clear T8 Bx_7 Bw_7 Br_7 Hw7))
  exact post_cell Try.underlying47 rfl szW12 Try.results19 Br_8 rfl rfl rfl ⟨rfl, Hw8⟩
theorem bs_nil_app (l : List UInt8) : (⟨#[]⟩ : ByteArray) ++ bs l = bs l := bs_append [] l
theorem head_any (c : Nat) (b : ByteArray) (w : World) (hc : c ≤ 1023) (hb : b.size < 4294967296) :
    Calls Try.prog 19 #[.agg #[.int .i64 (c : Int), .string b]] w fun e w' => e = .returned (.agg #[.string (bs (TG.hd c b.size)), .int .i64 0]) ∧ Below w.heap.size w w' := by
  by_cases h : b.size < 63
  · have e : TG.hd c b.size = B.le 2 (64 * c + b.size) := by unfold TG.hd; rw [if_pos h, List.append_nil, Nat.min_eq_left (by omega)]
    rw [e]
    refine head_small c b _ w hc h (Lib.hid fun W => ?_)
    have hm : min (b.size : Int) 63 = (b.size : Int) := by omega
    rw [hm, or12 c b.size hc (by omega), ← bs_nil_app]
    exact putlit12 ⟨#[]⟩ (64 * c + b.size) 2 W (Nat.zero_le _) (by decide) (by decide) (by rw [show B.P2 (8 * 2) = 65536 from rfl]; omega)
  · have e : TG.hd c b.size = B.le 2 (64 * c + 63) ++ B.le 4 b.size := by unfold TG.hd; rw [if_neg h, Nat.min_eq_right (by omega)]
    rw [e, ← bs_append]
    refine head_great c b (bs (B.le 2 (64 * c + 63))) _ w hc h (Lib.hid fun W => ?_) (Lib.hid fun W => ?_)
    · have hm : min (b.size : Int) 63 = ((63 : Nat) : Int) := by omega
      rw [hm, or12 c 63 hc (by omega), ← bs_nil_app]
      exact putlit12 ⟨#[]⟩ (64 * c + 63) 2 W (Nat.zero_le _) (by decide) (by decide) (by rw [show B.P2 (8 * 2) = 65536 from rfl]; omega)
    · exact putlit12 _ b.size 4 W (by rw [bs_size, B.le_len]; omega) (by decide) (by decide) (by rw [show B.P2 (8 * 4) = 4294967296 from rfl]; omega)
theorem put12_bad (c : Int) (b : ByteArray) (w : World) (h : c < 0 ∨ 1023 < c) :
    Calls Try.prog 8 #[.agg #[.int .i64 c, .string b]] w fun e w' => e = .returned (.tuple #[.string ⟨#[]⟩, .int .i64 1]) ∧ Below w.heap.size w w' := by
  have HH := Lib.hid h
  clear h
  go_enter Try.func8, Try.ntmps8
  go_wp2_with (first
    | (refine wl_box 23 _ _ rfl rfl (show _ = Value.agg #[.int .i64 c, .string b] from rfl) ?_; intro W1 bx Bx_1 l1 k1; have gx : w.heap.size ≤ bx := l1; have Hw1 := k1; clear l1 k1; have cx_0_1 : W1.cell? ⟨bx, 0, none⟩ = some (.int .i64 c) := Bx_1.cell 0; have cx_1_1 : W1.cell? ⟨bx, 1, none⟩ = some (.string b) := Bx_1.cell 1)
    | (go_at_call 17; (with_reducible refine (within_no _ _ _ _ HH.out).mono ?_); rintro e w0 ⟨rfl, rfl⟩))
  go_ret2
  exact ⟨rfl, Hw1⟩
theorem put12_ok (c : Nat) (b : ByteArray) (w : World) (h : c ≤ 1023) (hb : b.size < 4294967296) :
    Calls Try.prog 8 #[.agg #[.int .i64 (c : Int), .string b]] w fun e w' => e = .returned (.tuple #[.string (bs (TG.one c b.data.toList)), .int .i64 0]) ∧ Below w.heap.size w w' := by
  have HH : Hid ((0 : Int) ≤ (c : Int) ∧ (c : Int) ≤ 1023) := Lib.hid (by omega)
  have HE : Hid (bs (TG.hd c b.size) ++ b = bs (TG.one c b.data.toList)) := Lib.hid (by
    rw [TG.one, ← bs_append, bs_of, bytes_length])
  have HP := Lib.hid (fun W => head_any c b W h hb)
  have hs : (bs (TG.hd c b.size)).size ≤ 1099511627776 := by rw [bs_size, TG.hd_len]; split <;> omega
  have hb2 : b.size ≤ 1099511627776 := by omega
  have HQ := Lib.hid (fun W => putbytes_any (bs (TG.hd c b.size)) b 0 W hs hb2)
  clear h hb hs
  generalize bs (TG.hd c b.size) = u at *
  go_enter Try.func8, Try.ntmps8
  go_upto_region 3 with (go_big_may; first
    | (refine wl_box 23 _ _ rfl rfl (show _ = Value.agg #[.int .i64 (c : Int), .string b] from rfl) ?_; intro W1 bx Bx_1 l1 k1; have gx : w.heap.size ≤ bx := l1; have Hw1 := k1; clear l1 k1; have cx_0_1 : W1.cell? ⟨bx, 0, none⟩ = some (.int .i64 ((c : Int))) := Bx_1.cell 0; have cx_1_1 : W1.cell? ⟨bx, 1, none⟩ = some (.string b) := Bx_1.cell 1)
    | (go_at_call 17; (with_reducible refine (within_yes _ _ _ _ HH.out).mono ?_); rintro e w0 ⟨rfl, rfl⟩))
  clear cx_0_1 cx_1_1
  refine Det.wp_region_det (S := fun w' => Below W1.heap.size W1 w') (by kernel_rfl) (by kernel_rfl) (bq_drew (bq_refl _)) ?_
  refine Det.det_load 23 2 _ Try.underlying23 rfl szR12 _ rfl (by rfl) _ rfl _ _ (fun w hS => Bx_1.keep hS) rfl ?_
  try simp only [Act.put, List.setIfInBounds_toArray, List.set_cons_zero, List.set_cons_succ]
  refine Det.det_call (f := 19) (args := #[.agg #[.int .i64 (c : Int), .string b]]) (v := .agg #[.string u, .int .i64 0]) (by rfl) ?_ (fun w hS => (HP.out w).mono fun e w' ⟨h1, h2⟩ => ⟨h1, bq_trans hS h2⟩) ?_
  · (intro w hSw; go_simp)
  try simp only [Act.put, List.setIfInBounds_toArray, List.set_cons_zero, List.set_cons_succ]
  refine Det.det_take (v := ?_) (by rfl) ?_ ?_
  rotate_left
  · (intro w hSw; go_simp; try with_reducible rfl)
  try simp only [Act.put, List.setIfInBounds_toArray, List.set_cons_zero, List.set_cons_succ]
  refine Det.det_take (v := ?_) (by rfl) ?_ ?_
  rotate_left
  · (intro w hSw; have d1 : w.cell? ⟨bx, 1, none⟩ = some (.string b) := (Bx_1.keep hSw).cell 1; go_simp; try with_reducible rfl)
  try simp only [Act.put, List.setIfInBounds_toArray, List.set_cons_zero, List.set_cons_succ]
  refine Det.det_call (f := 18) (args := #[.agg #[.string u, .int .i64 0], .string b]) (v := .agg #[.string (u ++ b), .int .i64 0]) (by rfl) ?_ (fun w hS => (HQ.out w).mono fun e w' ⟨h1, h2⟩ => ⟨h1, bq_trans hS h2⟩) ?_
  · (intro w hSw; go_simp)
  try simp only [Act.put, List.setIfInBounds_toArray, List.set_cons_zero, List.set_cons_succ]
  refine Det.det_field 47 _ 0 (.agg #[.string (u ++ b), .int .i64 0]) (.string (u ++ b)) rfl (by rfl) rfl (fun w => by kernel_rfl) ?_
  try simp only [Act.put, List.setIfInBounds_toArray, List.set_cons_zero, List.set_cons_succ]
  refine Det.det_take (v := ?_) (by rfl) ?_ ?_
  rotate_left
  · (intro w hSw; go_simp; try with_reducible rfl)
  try simp only [Act.put, List.setIfInBounds_toArray, List.set_cons_zero, List.set_cons_succ]
  refine Det.det_take (v := ?_) (by rfl) ?_ ?_
  rotate_left
  · (intro w hSw; go_simp; try with_reducible rfl)
  try simp only [Act.put, List.setIfInBounds_toArray, List.set_cons_zero, List.set_cons_succ]
  refine Det.det_nil (fun W2 k2 => ?_)
  have Bx_2 := Bx_1.keep k2
  have Hw2 := bq_trans Hw1 k2
  clear k2 Bx_1 Hw1
  rw [HE.out]
  go_wp2_with fail
  go_ret2
  exact ⟨rfl, Hw2⟩
end Go.Proofs.Ytffcfcgkpebdoaa
namespace Go.Proofs.Ytffcfcgkpebdoaa
open Go.Shelf Go.RowKit
def joinRen : Go.Shelf.Ren := ⟨fun | 156 => 23 | 165 => 27 | 166 => 28 | 169 => 29 | 240 => 33 | 241 => 34 | 276 => 35 | 277 => 36 | n => n, fun | 31 => 58 | 9 => 9 | 3 => 3 | 4 => 4 | 0 => 0 | 20 => 20 | 72 => 69 | 76 => 73 | 70 => 67 | 37 => 66 | 75 => 72 | 127 => 79 | 164 => 80 | 5 => 5 | 80 => 75 | n => n, fun | n => n⟩
theorem joinLays : Go.Proofs.Lays.n156 Try.prog joinRen := {
  mixed := by kernel_rfl
  f156 := Try.func23.trans (congrArg some (by kernel_rfl))
  f165 := Try.func27.trans (congrArg some (by kernel_rfl))
  f166 := Try.func28.trans (congrArg some (by kernel_rfl))
  f169 := Try.func29.trans (congrArg some (by kernel_rfl))
  f240 := Try.func33.trans (congrArg some (by kernel_rfl))
  f241 := Try.func34.trans (congrArg some (by kernel_rfl))
  f276 := Try.func35.trans (congrArg some (by kernel_rfl))
  f277 := Try.func36.trans (congrArg some (by kernel_rfl))
  t0 := Try.underlying0
  a0 := Try.isAgg0
  z0 := Try.sizeOf0
  v0 := Try.zeroValue0
  t3 := Try.underlying3
  a3 := Try.isAgg3
  z3 := Try.sizeOf3
  v3 := Try.zeroValue3
  t4 := Try.underlying4
  a4 := Try.isAgg4
  z4 := Try.sizeOf4
  v4 := Try.zeroValue4
  t9 := Try.underlying9
  a9 := Try.isAgg9
  z9 := Try.sizeOf9
  v9 := Try.zeroValue9
  t20 := Try.underlying20
  a20 := Try.isAgg20
  z20 := Try.sizeOf20
  v20 := Try.zeroValue20
  t31 := Try.underlying58
  a31 := Try.isAgg58
  z31 := Try.sizeOf58
  v31 := Try.zeroValue58
  t37 := Try.underlying66
  a37 := Try.isAgg66
  z37 := Try.sizeOf66
  v37 := Try.zeroValue66
  t70 := Try.underlying67
  a70 := Try.isAgg67
  z70 := Try.sizeOf67
  v70 := Try.zeroValue67
  t72 := Try.underlying69
  a72 := Try.isAgg69
  z72 := Try.sizeOf69
  v72 := Try.zeroValue69
  t75 := Try.underlying72
  a75 := Try.isAgg72
  z75 := Try.sizeOf72
  v75 := Try.zeroValue72
  t76 := Try.underlying73
  a76 := Try.isAgg73
  z76 := Try.sizeOf73
  v76 := Try.zeroValue73
  t127 := Try.underlying79
  a127 := Try.isAgg79
  z127 := Try.sizeOf79
  v127 := Try.zeroValue79
  t164 := Try.underlying80
  a164 := Try.isAgg80
  z164 := Try.sizeOf80
  v164 := Try.zeroValue80 }
theorem joinExtra : Builder.Extra Try.prog joinRen := {
  sizeBuilder := by kernel_rfl
  liesBuilder := by kernel_rfl
  t5 := Try.underlying5
  a5 := Try.isAgg5
  z5 := Try.sizeOf5
  v5 := Try.zeroValue5
  infoByte := by kernel_rfl
  cellsByte := by kernel_rfl
  sizeByte := by kernel_rfl
  neB5 := by decide }
theorem sjoin_some (bk o c : Nat) (xs : List ByteArray) (sep : ByteArray) (w : World) (hcells : ∀ (j : Nat) x, xs[j]? = some x → w.cell? ⟨bk, o + j, none⟩ = some (.string x)) (hbk : bk < w.heap.size) (hN : xs.length ≤ 140737488355328) (hcap : xs.length ≤ c) (hlen : (Lib.join (xs.map (·.data.toList)) sep.data.toList).length ≤ 140737488355328) :
    Calls Try.prog 23 #[.slice (some ⟨bk, o, none⟩) xs.length c, .string sep] w fun e w' => e = .returned (.string ⟨(Lib.join (xs.map (·.data.toList)) sep.data.toList).toArray⟩) ∧ Below w.heap.size w w' := Any.strings_Join joinLays joinExtra bk o c xs sep w hcells hbk hN hcap hlen
end Go.Proofs.Ytffcfcgkpebdoaa
