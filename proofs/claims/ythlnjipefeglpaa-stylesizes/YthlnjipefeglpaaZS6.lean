import Derived.Test.YthlnjipefeglpaaZS5
import Derived.Laws.AppendOwn
import Derived.OwnWalk
import Derived.Deep.OwnRows
import Derived.Laws.MakeOwn
import Derived.KernelRfl
import Derived.ChangeKeysEq
import Derived.Test.YthlnjipefeglpaaZS0
namespace Go.Proofs.Ythlnjipefeglpaa
open Go.RowKit
set_option linter.unusedVariables false
def rectOk (l r t b : Int) : Bool := [l, r, t, b].all (nr 1048576) && decide (l ≤ r) && decide (t ≤ b)
def matOk (a b c d x y : Int) : Bool := [a, b, c, d].all (nr 4194304) && [x, y].all (nr 1048576)
def cxOk (m d : List Int) : Bool := m.all (nr 512) && d.all (nr 255)
def rgbaOk (r g b a : Int) : Bool := [r, g, b, a].all (nr 255) && decide (0 ≤ r) && decide (0 ≤ g) && decide (0 ≤ b) && decide (0 ≤ a)
def I64 (v : Int) : Prop := -9223372036854775808 ≤ v ∧ v ≤ 9223372036854775807
theorem i64_2 {x y : Int} (hx : I64 x) (hy : I64 y) : ∀ v ∈ [x, y], -9223372036854775808 ≤ v ∧ v ≤ 9223372036854775807 := by
  intro v hv
  simp only [List.mem_cons, List.not_mem_nil, or_false] at hv
  rcases hv with rfl | rfl
  · exact hx
  · exact hy
theorem i64_4 {x y z u : Int} (hx : I64 x) (hy : I64 y) (hz : I64 z) (hu : I64 u) : ∀ v ∈ [x, y, z, u], -9223372036854775808 ≤ v ∧ v ≤ 9223372036854775807 := by
  intro v hv
  simp only [List.mem_cons, List.not_mem_nil, or_false] at hv
  rcases hv with rfl | rfl | rfl | rfl
  · exact hx
  · exact hy
  · exact hz
  · exact hu
theorem near4 (m x y z u : Int) (hx : I64 x) (hy : I64 y) (hz : I64 z) (hu : I64 u) (m0 : 0 ≤ m) (m1 : m ≤ 1000000000) (q : Bool) (hq : [x, y, z, u].all (nr m) = q) (b : Nat) (w : World) (B : Blk w b (iA [x, y, z, u]) 3) :
    Calls Try.prog 48 #[.int .i64 m, .slice (some ⟨b, 0, none⟩) 4 4] w fun e w' => e = .returned (.bool q) ∧ w = w' := by
  rw [← hq]
  exact near_list [x, y, z, u] m _ b 0 4 w (by simp) m0 m1 (Lib.hid (B.ints (i64_4 hx hy hz hu)))
theorem near2 (m x y : Int) (hx : I64 x) (hy : I64 y) (m0 : 0 ≤ m) (m1 : m ≤ 1000000000) (q : Bool) (hq : [x, y].all (nr m) = q) (b : Nat) (w : World) (B : Blk w b (iA [x, y]) 3) :
    Calls Try.prog 48 #[.int .i64 m, .slice (some ⟨b, 0, none⟩) 2 2] w fun e w' => e = .returned (.bool q) ∧ w = w' := by
  rw [← hq]
  exact near_list [x, y] m _ b 0 2 w (by simp) m0 m1 (Lib.hid (B.ints (i64_2 hx hy)))
set_option maxHeartbeats 1000000 in
theorem rightmatrix_any (a b c d x y : Int) (w : World) (ha : I64 a) (hb : I64 b) (hc : I64 c) (hd : I64 d) (hx : I64 x) (hy : I64 y) :
    Calls Try.prog 25 #[.agg #[.int .i64 a, .int .i64 b, .int .i64 c, .int .i64 d, .int .i64 x, .int .i64 y]] w fun e w' => e = .returned (.bool (matOk a b c d x y)) ∧ Below w.heap.size w w' := by
  obtain ⟨q, hq⟩ : ∃ q, [a, b, c, d].all (nr 4194304) = q := ⟨_, rfl⟩
  obtain ⟨p, hp⟩ : ∃ p, [x, y].all (nr 1048576) = p := ⟨_, rfl⟩
  have HN := Lib.hid (fun w g B => near4 4194304 a b c d ha hb hc hd (by omega) (by omega) q hq g w B)
  have HP := Lib.hid (fun w g B => near2 1048576 x y hx hy (by omega) (by omega) p hp g w B)
  have HR : Hid (matOk a b c d x y = (q && p)) := Lib.hid (by unfold matOk; rw [hq, hp])
  rw [HR.out]
  clear hq hp ha hb hc hd hx hy HR
  cases q
  · go_enter Try.func25, Try.ntmps25
    go_wp2_with (first
      | (refine wl_box 25 _ _ rfl rfl rfl ?_; intro W0 b0 B0 l0 k0; have c0 : W0.cell? ⟨b0, 0, none⟩ = some (.int .i64 a) := B0.cell 0; have c1 : W0.cell? ⟨b0, 1, none⟩ = some (.int .i64 b) := B0.cell 1; have c2 : W0.cell? ⟨b0, 2, none⟩ = some (.int .i64 c) := B0.cell 2; have c3 : W0.cell? ⟨b0, 3, none⟩ = some (.int .i64 d) := B0.cell 3; have c4 : W0.cell? ⟨b0, 4, none⟩ = some (.int .i64 x) := B0.cell 4; have c5 : W0.cell? ⟨b0, 5, none⟩ = some (.int .i64 y) := B0.cell 5)
      | (refine wlg_slice 90 3 4 _ _ (ints4_run a b c d) _ rfl rfl rfl ?_; intro W1 b1 B1 l1 k1)
      | (go_at_call 48; refine (HN.out _ _ B1).mono ?_; rintro e w2 ⟨rfl, rfl⟩))
    go_ret; exact ⟨ret_bool rfl, bq_trans k0 k1⟩
  · go_enter Try.func25, Try.ntmps25
    go_wp2_with (first
      | (refine wl_box 25 _ _ rfl rfl rfl ?_; intro W0 b0 B0 l0 k0; have c0 : W0.cell? ⟨b0, 0, none⟩ = some (.int .i64 a) := B0.cell 0; have c1 : W0.cell? ⟨b0, 1, none⟩ = some (.int .i64 b) := B0.cell 1; have c2 : W0.cell? ⟨b0, 2, none⟩ = some (.int .i64 c) := B0.cell 2; have c3 : W0.cell? ⟨b0, 3, none⟩ = some (.int .i64 d) := B0.cell 3; have c4 : W0.cell? ⟨b0, 4, none⟩ = some (.int .i64 x) := B0.cell 4; have c5 : W0.cell? ⟨b0, 5, none⟩ = some (.int .i64 y) := B0.cell 5)
      | (refine wlg_slice 90 3 4 _ _ (ints4_run a b c d) _ rfl rfl rfl ?_; intro W1 b1 B1 l1 k1; have B2 := B0.keep k1; have d0 : W1.cell? ⟨b0, 0, none⟩ = some (.int .i64 a) := B2.cell 0; have d1 : W1.cell? ⟨b0, 1, none⟩ = some (.int .i64 b) := B2.cell 1; have d2 : W1.cell? ⟨b0, 2, none⟩ = some (.int .i64 c) := B2.cell 2; have d3 : W1.cell? ⟨b0, 3, none⟩ = some (.int .i64 d) := B2.cell 3; have d4 : W1.cell? ⟨b0, 4, none⟩ = some (.int .i64 x) := B2.cell 4; have d5 : W1.cell? ⟨b0, 5, none⟩ = some (.int .i64 y) := B2.cell 5)
      | (refine wlg_slice 90 3 2 _ _ (ints2_run x y) _ rfl rfl rfl ?_; intro W3 b3 B3 l3 k3)
      | (go_at_call 48; refine (HP.out _ _ B3).mono ?_; rintro e w4 ⟨rfl, rfl⟩)
      | (go_at_call 48; refine (HN.out _ _ B1).mono ?_; rintro e w2 ⟨rfl, rfl⟩))
    go_ret; exact ⟨ret_bool (by simp), bq_trans (bq_trans k0 k1) k3⟩
theorem run_min4 {P : Program} (w : World) (ts : Array TypeId) (t : TypeId) (k k1 k2 k3 : IntKind) (x y z u : Int) :
    (Builtin.min_ ts t #[.int k x, .int k1 y, .int k2 z, .int k3 u]).run P w = .ok (.int k (min (min (min x y) z) u)) w := by
  have e : ∀ x y : Int, (if y < x then y else x) = min x y := by
    intro x y
    rw [Int.min_def]
    split <;> split <;> omega
  simp [Builtin.min_, Builtin.min2, e]
attribute [local go_sem high] run_min4
set_option maxHeartbeats 1000000 in
theorem rightrgba_any (r g b a : Int) (w : World) (hr : I64 r) (hg : I64 g) (hb : I64 b) (ha : I64 a) :
    Calls Try.prog 24 #[.agg #[.int .i64 r, .int .i64 g, .int .i64 b, .int .i64 a]] w fun e w' => e = .returned (.bool (rgbaOk r g b a)) ∧ Below w.heap.size w w' := by
  obtain ⟨q, hq⟩ : ∃ q, [r, g, b, a].all (nr 255) = q := ⟨_, rfl⟩
  have HN := Lib.hid (fun w z B => near4 255 r g b a hr hg hb ha (by omega) (by omega) q hq z w B)
  have HR : Hid (rgbaOk r g b a = (q && decide (0 ≤ r) && decide (0 ≤ g) && decide (0 ≤ b) && decide (0 ≤ a))) := Lib.hid (by unfold rgbaOk; rw [hq])
  rw [HR.out]
  clear hq hr hg hb ha HR
  go_enter Try.func24, Try.ntmps24
  go_wp2_with (first
    | (refine wl_box 23 _ _ rfl rfl rfl ?_; intro W0 b0 B0 l0 k0; have c0 : W0.cell? ⟨b0, 0, none⟩ = some (.int .i64 r) := B0.cell 0; have c1 : W0.cell? ⟨b0, 1, none⟩ = some (.int .i64 g) := B0.cell 1; have c2 : W0.cell? ⟨b0, 2, none⟩ = some (.int .i64 b) := B0.cell 2; have c3 : W0.cell? ⟨b0, 3, none⟩ = some (.int .i64 a) := B0.cell 3)
    | (refine wlg_slice 90 3 4 _ _ (ints4_run r g b a) _ rfl rfl rfl ?_; intro W1 b1 B1 l1 k1; have B2 := B0.keep k1; have d0 : W1.cell? ⟨b0, 0, none⟩ = some (.int .i64 r) := B2.cell 0; have d1 : W1.cell? ⟨b0, 1, none⟩ = some (.int .i64 g) := B2.cell 1; have d2 : W1.cell? ⟨b0, 2, none⟩ = some (.int .i64 b) := B2.cell 2; have d3 : W1.cell? ⟨b0, 3, none⟩ = some (.int .i64 a) := B2.cell 3))
  refine (HN.out _ _ B1).mono ?_
  rintro e w2 ⟨rfl, rfl⟩
  clear HN B0 B1 B2 c0 c1 c2 c3
  cases q
  all_goals
    go_wp2
    all_goals (go_ret; exact ⟨ret_bool (by rw [Bool.eq_iff_iff]; simp; try omega), bq_trans k0 k1⟩)
end Go.Proofs.Ythlnjipefeglpaa
namespace Go.Proofs.Ythlnjipefeglpaa
open Go.RowKit
set_option linter.unusedVariables false
def iL (l : List Int) : List Value := l.map (Value.int .i64 ·)
theorem iL_len (l : List Int) : (iL l).length = l.length := by simp [iL]
def OwnI (w : World) (B : Nat) (v : Value) (l : List Int) : Prop := w.ownsRow B 3 1 v l.length (iL l)
section
variable {ops : Array Oper} {rest : List Oper} {o : Oper} {a : Act} {w : World} {Q : Exit → Act → World → Prop}
end
end Go.Proofs.Ythlnjipefeglpaa
namespace Go.Proofs.Ythlnjipefeglpaa
set_option maxRecDepth 100000
open Go.RowKit Go.WideShapes Go.ChangeShapes
set_option linter.unusedVariables false
def Num5 (w : World) (cs : List Value) (x : List Int) : Prop := x.length = 5 ∧ cs = iL x ∧ ∀ v ∈ x, I64 v
theorem num5_lasts : Lasts Num5 := fun w w' cs x h _ => h
structure FV where
  k : Int
  c : List Int
  m : List Int
  sp : Int
  st : List (List Int)
  id : Int
instance : Inhabited FV := ⟨⟨0, [], [], 0, [], 0⟩⟩
structure FV.Fit (F : FV) : Prop where
  k : I64 F.k
  c : F.c.length = 4
  m : F.m.length = 6
  sp : I64 F.sp
  id : I64 F.id
  bc : ∀ v ∈ F.c, I64 v
  bm : ∀ v ∈ F.m, I64 v
def fillC (F : FV) (sv : Value) : List Value := [.int .i64 F.k] ++ iL F.c ++ iL F.m ++ [.int .i64 F.sp, sv, .int .i64 F.id]
def FillR (w : World) (cs : List Value) (F : FV) : Prop := F.Fit ∧ ∃ sv, cs = fillC F sv ∧ Sl w 5 Num5 sv F.st
theorem fill_lasts : Lasts FillR := fun w w' cs x ⟨h, sv, h1, h2⟩ hb => ⟨h, sv, h1, h2.keep num5_lasts hb⟩
def Stops (w : World) (sv : Value) (xs : List (List Int)) : Prop := Sl w 5 Num5 sv xs
def Fills (w : World) (v : Value) (Fs : List FV) : Prop := Sl w 14 FillR v Fs
def Strokes (w : World) (v : Value) (xs : List (List Int)) : Prop := Sl w 5 Num5 v xs
section
variable {H : Type} {enc : TypeId × Value → H} {w : World} {base : Nat} {spare : Nat → Bool} {held : Bool}
end
end Go.Proofs.Ythlnjipefeglpaa
namespace Go.Proofs.Ythlnjipefeglpaa
open Go.RowKit
set_option linter.unusedVariables false
theorem size51 : (Try.prog.info? 46).map (·.size) = some 2 := by kernel_rfl
theorem zero51 (w : World) : (zeroValue 46).run Try.prog w = .ok (.agg #[.string ⟨#[]⟩, .int .i64 0]) w := Try.zeroValue46 w
def Tk (w : World) (b : Nat) (x : RS) : Prop := Blk w b x.cells 141
theorem Tk.keep {w w' : World} {b : Nat} {x : RS} (h : Tk w b x) (k : Below w.heap.size w w') : Tk w' b x := Blk.keep h k
theorem Tk.set {w : World} {b : Nat} {x y : RS} (h : Tk w b x) : Tk (((w.setCell ⟨b, 0, none⟩ (.string y.s)).setCell ⟨b, 1, none⟩ (.int .i64 y.a)).setCell ⟨b, 2, none⟩ (.int .i64 y.e)) b y := ((Blk.set h 0 _).set 1 _).set 2 _
theorem but_refl (p q : Nat) (w : World) : But p q w w := But.of (bq_refl w)
theorem But.trans {p q : Nat} {w w' w'' : World} (h : But p q w w') (k : But p q w' w'') : But p q w w'' :=
  ⟨k.os.trans h.os, k.tape.trans h.tape, k.output.trans h.output, Nat.le_trans h.size k.size, fun i hi hp hq => (k.block i (by have := h.size; omega) hp hq).trans (h.block i hi hp hq)⟩
set_option maxHeartbeats 1000000 in
theorem begin_any (s : ByteArray) (a : Int) (w : World) (hs : s.size ≤ 1000000) :
    Calls Try.prog 77 #[.agg #[.string s, .int .i64 a]] w fun e w' => ∃ b, e = .returned (.pointer (some ⟨b, 0, none⟩)) ∧ Tk w' b (RS.begP s a) ∧ w.heap.size ≤ b ∧ Below w.heap.size w w' := by
  have HA := Lib.hid (fun w => align_any s a w (by omega))
  clear hs
  go_enter Try.func77, Try.ntmps77
  go_wp2_with (first
    | (refine wl_box 46 _ _ rfl rfl (show _ = Value.agg #[.string s, .int .i64 a] from rfl) ?_; intro W1 b1 B1 l1 k1)
    | (refine wl_load 46 2 _ Try.underlying46 rfl size51 _ rfl rfl _ rfl _ _ B1 rfl ?_)
    | (go_at_call 90; (with_reducible refine (HA.out _).mono ?_); rintro e w2 ⟨rfl, k2⟩)
    | (refine wl_box 141 _ _ rfl rfl (show _ = Value.agg (RS.begP s a).cells from rfl) ?_; intro W3 b3 B3 l3 k3))
  go_ret
  exact ⟨b3, rfl, B3, by have := k1.size; have := k2.size; omega, bq_trans (bq_trans k1 k2) k3⟩
section
variable {w : World} {b : Nat} {x : RS}
theorem RS.err {x : RS} (h : x.e ≠ 0) (n : Int) : x.pl n = 0 ∧ x.sg n = 0 ∧ x.go n = x := ⟨if_neg h, if_neg h, if_neg h⟩
theorem RS.fine {x : RS} (h : x.e = 0) (n : Int) : x.pl n = plV x.s x.a n ∧ x.sg n = sgV x.s x.a n ∧ x.go n = ⟨plS x.s x.a n, plA x.s x.a n, plE x.s.size x.a n⟩ := ⟨if_pos h, if_pos h, if_pos h⟩
theorem take_err (f : Nat) (n : Int) (hx : Tk w b x) (he : x.e ≠ 0) :
    Calls Try.prog 102 #[.pointer (some ⟨b, 0, none⟩), .func (.func f) #[] #[], .int .i64 n] w fun e w' => e = .returned (.int .i64 0) ∧ w = w' := by
  have c2 : w.cell? ⟨b, 2, none⟩ = some (.int .i64 x.e) := Blk.cell hx 2
  have q : (x.e != 0) = true := by rw [bne_iff_ne]; exact he
  clear hx he
  go_enter Try.func102, Try.ntmps102
  go_wp2
  go_ret
  exact ⟨rfl, rfl⟩
set_option maxHeartbeats 1000000 in
theorem take_plain (n : Int) (hx : Tk w b x) (hs : x.s.size ≤ 1000000) :
    Calls Try.prog 102 #[.pointer (some ⟨b, 0, none⟩), .func (.func 103) #[] #[], .int .i64 n] w fun e w' => e = .returned (.int .i64 (x.pl n)) ∧ Tk w' b (x.go n) ∧ But b b w w' := by
  by_cases he : x.e = 0
  · obtain ⟨e1, e2, e3⟩ := RS.fine he n
    have HP : Hid (∀ W, Calls Try.prog 103 #[.agg #[.string x.s, .int .i64 x.a], .int .i64 n] W fun e w' => e = .returned (.tuple #[.int .i64 (x.pl n), .agg #[.string (x.go n).s, .int .i64 (x.go n).a], .int .i64 (x.go n).e]) ∧ Below W.heap.size W w') := Lib.hid fun W => by
      rw [e1, e3]
      exact plain_any x.s x.a n W (by omega)
    have c0 : w.cell? ⟨b, 0, none⟩ = some (.string x.s) := Blk.cell hx 0
    have c1 : w.cell? ⟨b, 1, none⟩ = some (.int .i64 x.a) := Blk.cell hx 1
    have c2 : w.cell? ⟨b, 2, none⟩ = some (.int .i64 x.e) := Blk.cell hx 2
    have q : (x.e != 0) = false := by rw [he]; rfl
    have HX := Lib.hid hx
    clear hx he e1 e2 e3 hs
    generalize x.pl n = v at *
    generalize x.go n = y at *
    obtain ⟨xs, xa, xe⟩ := x
    dsimp only at *
    go_enter Try.func102, Try.ntmps102
    go_wp2_with (go_at_call 103; (with_reducible refine (HP.out _).mono ?_); rintro e w2 ⟨rfl, k2⟩; have HX2 := HX.out.keep k2; have d0 : w2.cell? ⟨b, 0, none⟩ = some (.string xs) := Blk.cell HX2 0; have d1 : w2.cell? ⟨b, 1, none⟩ = some (.int .i64 xa) := Blk.cell HX2 1; have d2 : w2.cell? ⟨b, 2, none⟩ = some (.int .i64 xe) := Blk.cell HX2 2; have f0 := Blk.frozen HX2 0; have f1 := Blk.frozen HX2 1; have f2 := Blk.frozen HX2 2)
    go_ret
    exact ⟨rfl, HX2.set, But.setp _ _ (But.setp _ _ (But.setp _ _ (But.of k2)))⟩
  · obtain ⟨e1, e2, e3⟩ := RS.err he n
    rw [e1, e3]
    exact (take_err 103 n hx he).mono fun e w' ⟨h1, h2⟩ => ⟨h1, h2 ▸ hx, h2 ▸ but_refl b b w⟩
theorem tplain_any (n : Int) (hx : Tk w b x) (hs : x.s.size ≤ 1000000) :
    Calls Try.prog 91 #[.pointer (some ⟨b, 0, none⟩), .int .i64 n] w fun e w' => e = .returned (.int .i64 (x.pl n)) ∧ Tk w' b (x.go n) ∧ But b b w w' := by
  have HT := Lib.hid (take_plain n hx hs)
  clear hx hs
  go_enter Try.func91, Try.ntmps91
  go_wp2_with (go_at_call 102; (with_reducible refine HT.out.mono ?_); rintro e w2 ⟨rfl, X2, k2⟩)
  go_ret
  exact ⟨rfl, X2, k2⟩
set_option maxHeartbeats 1000000 in
theorem take_signed (n : Int) (hx : Tk w b x) (hs : x.s.size ≤ 1000000) :
    Calls Try.prog 102 #[.pointer (some ⟨b, 0, none⟩), .func (.func 104) #[] #[], .int .i64 n] w fun e w' => e = .returned (.int .i64 (x.sg n)) ∧ Tk w' b (x.go n) ∧ But b b w w' := by
  by_cases he : x.e = 0
  · obtain ⟨e1, e2, e3⟩ := RS.fine he n
    have HP : Hid (∀ W, Calls Try.prog 104 #[.agg #[.string x.s, .int .i64 x.a], .int .i64 n] W fun e w' => e = .returned (.tuple #[.int .i64 (x.sg n), .agg #[.string (x.go n).s, .int .i64 (x.go n).a], .int .i64 (x.go n).e]) ∧ Below W.heap.size W w') := Lib.hid fun W => by
      rw [e2, e3]
      exact signed_any x.s x.a n W (by omega)
    have c0 : w.cell? ⟨b, 0, none⟩ = some (.string x.s) := Blk.cell hx 0
    have c1 : w.cell? ⟨b, 1, none⟩ = some (.int .i64 x.a) := Blk.cell hx 1
    have c2 : w.cell? ⟨b, 2, none⟩ = some (.int .i64 x.e) := Blk.cell hx 2
    have q : (x.e != 0) = false := by rw [he]; rfl
    have HX := Lib.hid hx
    clear hx he e1 e2 e3 hs
    generalize x.sg n = v at *
    generalize x.go n = y at *
    obtain ⟨xs, xa, xe⟩ := x
    dsimp only at *
    go_enter Try.func102, Try.ntmps102
    go_wp2_with (go_at_call 104; (with_reducible refine (HP.out _).mono ?_); rintro e w2 ⟨rfl, k2⟩; have HX2 := HX.out.keep k2; have d0 : w2.cell? ⟨b, 0, none⟩ = some (.string xs) := Blk.cell HX2 0; have d1 : w2.cell? ⟨b, 1, none⟩ = some (.int .i64 xa) := Blk.cell HX2 1; have d2 : w2.cell? ⟨b, 2, none⟩ = some (.int .i64 xe) := Blk.cell HX2 2; have f0 := Blk.frozen HX2 0; have f1 := Blk.frozen HX2 1; have f2 := Blk.frozen HX2 2)
    go_ret
    exact ⟨rfl, HX2.set, But.setp _ _ (But.setp _ _ (But.setp _ _ (But.of k2)))⟩
  · obtain ⟨e1, e2, e3⟩ := RS.err he n
    rw [e2, e3]
    exact (take_err 104 n hx he).mono fun e w' ⟨h1, h2⟩ => ⟨h1, h2 ▸ hx, h2 ▸ but_refl b b w⟩
theorem tsigned_any (n : Int) (hx : Tk w b x) (hs : x.s.size ≤ 1000000) :
    Calls Try.prog 92 #[.pointer (some ⟨b, 0, none⟩), .int .i64 n] w fun e w' => e = .returned (.int .i64 (x.sg n)) ∧ Tk w' b (x.go n) ∧ But b b w w' := by
  have HT := Lib.hid (take_signed n hx hs)
  clear hx hs
  go_enter Try.func92, Try.ntmps92
  go_wp2_with (go_at_call 102; (with_reducible refine HT.out.mono ?_); rintro e w2 ⟨rfl, X2, k2⟩)
  go_ret
  exact ⟨rfl, X2, k2⟩
theorem tbit_any (hx : Tk w b x) (hs : x.s.size ≤ 1000000) :
    Calls Try.prog 78 #[.pointer (some ⟨b, 0, none⟩)] w fun e w' => e = .returned (.bool (x.pl 1 == 1)) ∧ Tk w' b (x.go 1) ∧ But b b w w' := by
  have HT := Lib.hid (tplain_any 1 hx hs)
  clear hx hs
  go_enter Try.func78, Try.ntmps78
  go_wp2_with (go_at_call 91; (with_reducible refine HT.out.mono ?_); rintro e w2 ⟨rfl, X2, k2⟩)
  go_ret
  exact ⟨rfl, X2, k2⟩
def RS.sevL (x : RS) (h : Int) (k : Nat) : List Int := (x.go h).l (x.pl h) k
def RS.sevS (x : RS) (h : Int) (k : Nat) : RS := (x.go h).on (x.pl h) k
theorem tpair_any (hx : Tk w b x) (hs : x.s.size ≤ 1000000) :
    Calls Try.prog 79 #[.pointer (some ⟨b, 0, none⟩)] w fun e w' => e = .returned (.tuple #[.int .i64 ((x.go 5).sg (x.pl 5)), .int .i64 (((x.go 5).go (x.pl 5)).sg (x.pl 5))]) ∧ Tk w' b (x.sevS 5 2) ∧ But b b w w' := by
  have HT := Lib.hid (tplain_any 5 hx hs)
  have HS1 := Lib.hid (fun W (h : Tk W b (x.go 5)) => tsigned_any (x.pl 5) h (RS.go_size _ _ hs))
  have HS2 := Lib.hid (fun W (h : Tk W b ((x.go 5).go (x.pl 5))) => tsigned_any (x.pl 5) h (RS.go_size _ _ (RS.go_size _ _ hs)))
  have HE : Hid (((x.go 5).go (x.pl 5)).go (x.pl 5) = x.sevS 5 2) := Lib.hid rfl
  clear hx hs
  generalize x.pl 5 = n at *
  generalize (x.go 5).sg n = v1 at *
  generalize ((x.go 5).go n).sg n = v2 at *
  go_enter Try.func79, Try.ntmps79
  go_wp2_with (first
    | (go_at_call 91; (with_reducible refine HT.out.mono ?_); rintro e w2 ⟨rfl, X2, k2⟩)
    | (go_at_call 92; (with_reducible refine (HS2.out _ X3).mono ?_); rintro e w4 ⟨rfl, X4, k4⟩)
    | (go_at_call 92; (with_reducible refine (HS1.out _ X2).mono ?_); rintro e w3 ⟨rfl, X3, k3⟩))
  go_ret2
  exact ⟨rfl, HE.out ▸ X4, (k2.trans k3).trans k4⟩
def fill4 (l : List Int) : List Int := l ++ List.replicate (4 - l.length) 0
end
end Go.Proofs.Ythlnjipefeglpaa
namespace Go.Proofs.Ythlnjipefeglpaa
open Go.RowKit
set_option linter.unusedVariables false
theorem list4 (l : List Int) (h : l.length = 4) : ∃ a b c d, l = [a, b, c, d] := by
  match l, h with
  | [a, b, c, d], _ => exact ⟨a, b, c, d, rfl⟩
theorem list6 (l : List Int) (h : l.length = 6) : ∃ a b c d e f, l = [a, b, c, d, e, f] := by
  match l, h with
  | [a, b, c, d, e, f], _ => exact ⟨a, b, c, d, e, f, rfl⟩
def rectOkL : List Int → Bool
  | [a, b, c, d] => rectOk a b c d
  | _ => false
def matOkL : List Int → Bool
  | [a, b, c, d, x, y] => matOk a b c d x y
  | _ => false
def rectS (x : RS) : RS := (x.sevS 5 4).fin (rectOkL (x.sevL 5 4))
def rectV (x : RS) : List Int := if (rectS x).e = 0 then x.sevL 5 4 else [0, 0, 0, 0]
theorem sevS_size (x : RS) (h : Int) (k : Nat) {m : Nat} (hs : x.s.size ≤ m) : (x.sevS h k).s.size ≤ m := RS.on_size _ _ _ (RS.go_size _ _ hs)
theorem sev2 (x : RS) : x.sevL 5 2 = [(x.go 5).sg (x.pl 5), ((x.go 5).go (x.pl 5)).sg (x.pl 5)] := rfl
def mB1 (x : RS) : Bool := x.pl 1 == 1
def mAD (x : RS) : List Int := if mB1 x = true then (x.go 1).sevL 5 2 else [65536, 65536]
def mx2 (x : RS) : RS := if mB1 x = true then (x.go 1).sevS 5 2 else x.go 1
def mBC (y : RS) : List Int := if mB1 y = true then (y.go 1).sevL 5 2 else [0, 0]
def mx5 (x : RS) : RS := (mx2 (mx2 x)).sevS 5 2
def matL (x : RS) : List Int := [(mAD x).getD 0 0, (mBC (mx2 x)).getD 0 0, (mBC (mx2 x)).getD 1 0, (mAD x).getD 1 0, ((mx2 (mx2 x)).sevL 5 2).getD 0 0, ((mx2 (mx2 x)).sevL 5 2).getD 1 0]
def matS (x : RS) : RS := (mx5 x).fin (matOkL (matL x))
def matV (x : RS) : List Int := if (matS x).e = 0 then matL x else [0, 0, 0, 0, 0, 0]
theorem matV_len (x : RS) : (matV x).length = 6 := by unfold matV; split <;> rfl
theorem mx2_size (x : RS) {m : Nat} (hs : x.s.size ≤ m) : (mx2 x).s.size ≤ m := by
  unfold mx2
  split
  · exact sevS_size _ _ _ (RS.go_size _ _ hs)
  · exact RS.go_size _ _ hs
def cAd (x : RS) : Bool := x.pl 1 == 1
def cMu (x : RS) : Bool := (x.go 1).pl 1 == 1
def cN (x : RS) : Int := ((x.go 1).go 1).pl 4
def cx3 (x : RS) : RS := ((x.go 1).go 1).go 4
def cMs (x : RS) : List Int := if cMu x = true then (cx3 x).l (cN x) 4 else [256, 256, 256, 256]
def cx4 (x : RS) : RS := if cMu x = true then (cx3 x).on (cN x) 4 else cx3 x
def cDs (x : RS) : List Int := if cAd x = true then (cx4 x).l (cN x) 4 else [0, 0, 0, 0]
def cx5 (x : RS) : RS := if cAd x = true then (cx4 x).on (cN x) 4 else cx4 x
def cxS (x : RS) : RS := (cx5 x).fin (cxOk (cMs x) (cDs x))
def cxV (x : RS) : List Int := if (cxS x).e = 0 then cMs x ++ cDs x else [0, 0, 0, 0, 0, 0, 0, 0]
theorem sg_fit (x : RS) (n : Int) : I64 (x.sg n) := by
  have := RS.sg_bd x n
  unfold I64
  omega
theorem small_fit (v : Int) (h0 : 0 ≤ v) (h1 : v ≤ 100000) : I64 v := by unfold I64; omega
theorem mAD_fit (x : RS) : I64 ((mAD x).getD 0 0) ∧ I64 ((mAD x).getD 1 0) := by
  unfold mAD
  split
  · rw [sev2]; exact ⟨sg_fit _ _, sg_fit _ _⟩
  · exact ⟨small_fit _ (by decide) (by decide), small_fit _ (by decide) (by decide)⟩
theorem mBC_fit (x : RS) : I64 ((mBC x).getD 0 0) ∧ I64 ((mBC x).getD 1 0) := by
  unfold mBC
  split
  · rw [sev2]; exact ⟨sg_fit _ _, sg_fit _ _⟩
  · exact ⟨small_fit _ (by decide) (by decide), small_fit _ (by decide) (by decide)⟩
end Go.Proofs.Ythlnjipefeglpaa
