import Derived.Test.YthlnjipefeglpaaZU6
import Derived.Test.YthlnjipefeglpaaZU0
namespace Go.Proofs.Ythlnjipefeglpaa
set_option maxRecDepth 100000
open Go.RowKit Go.WideShapes Go.ChangeShapes
set_option linter.unusedVariables false
def Num5 (w : World) (cs : List Value) (x : List Int) : Prop := x.length = 5 ∧ cs = iL x ∧ ∀ v ∈ x, I64 v
theorem num5_lasts : Lasts Num5 := fun w w' cs x h _ => h
structure FV where
  k : Int
  c : List Int
  m : List Int
  sp : Int
  st : List (List Int)
  id : Int
instance : Inhabited FV := ⟨⟨0, [], [], 0, [], 0⟩⟩
structure FV.Fit (F : FV) : Prop where
  k : I64 F.k
  c : F.c.length = 4
  m : F.m.length = 6
  sp : I64 F.sp
  id : I64 F.id
  bc : ∀ v ∈ F.c, I64 v
  bm : ∀ v ∈ F.m, I64 v
def fillC (F : FV) (sv : Value) : List Value := [.int .i64 F.k] ++ iL F.c ++ iL F.m ++ [.int .i64 F.sp, sv, .int .i64 F.id]
def FillR (w : World) (cs : List Value) (F : FV) : Prop := F.Fit ∧ ∃ sv, cs = fillC F sv ∧ Sl w 5 Num5 sv F.st
theorem fill_lasts : Lasts FillR := fun w w' cs x ⟨h, sv, h1, h2⟩ hb => ⟨h, sv, h1, h2.keep num5_lasts hb⟩
def Stops (w : World) (sv : Value) (xs : List (List Int)) : Prop := Sl w 5 Num5 sv xs
def Fills (w : World) (v : Value) (Fs : List FV) : Prop := Sl w 14 FillR v Fs
def Strokes (w : World) (v : Value) (xs : List (List Int)) : Prop := Sl w 5 Num5 v xs
section
variable {H : Type} {enc : TypeId × Value → H} {w : World} {base : Nat} {spare : Nat → Bool} {held : Bool}
theorem int_of {n : Nat} {v : Value} {y : DataW H × List MemPlace} (h : DataW.trod enc Try.prog w base spare held n 3 [v] = some y) : ∃ z, v = .int .i64 z ∧ I64 z := by
  obtain ⟨z, hz, _, hw⟩ := DataW.trod_int Try.underlying3 h
  simp only [List.cons.injEq, and_true] at hz
  exact ⟨z, hz, bd64 hw⟩
theorem cells1 : Try.prog.cellsOf 3 = 1 := by kernel_rfl
theorem cellsRG : Try.prog.cellsOf 23 = 4 := by kernel_rfl
theorem cellsMT : Try.prog.cellsOf 25 = 6 := by kernel_rfl
theorem cellsSP : Try.prog.cellsOf 65 = 5 := by kernel_rfl
theorem cellsSK : Try.prog.cellsOf 30 = 5 := by kernel_rfl
theorem cellsFL : Try.prog.cellsOf 28 = 14 := by kernel_rfl
theorem cellsSS : Try.prog.cellsOf 26 = 1 := by kernel_rfl
theorem nums_of {n : Nat} {t : TypeId} {fs : Array Field} {cs : List Value} {y : DataW H × List MemPlace} (ht : Try.prog.underlying t = some (.struct fs)) (hf : ∀ (i : Nat) (f : Field), fs[i]? = some f → f.type = 3 ∧ f.offset = i) (hl : cs.length = fs.size)
    (h : DataW.trod enc Try.prog w base spare held n t cs = some y) : ∃ zs : List Int, cs = iL zs ∧ ∀ z ∈ zs, I64 z := by
  obtain ⟨xs, m, hfu, hxe, hcl, hxl, hx⟩ := DataW.trod_struct ht h
  have each : ∀ i, i < cs.length → ∃ z : Int, cs[i]? = some (.int .i64 z) ∧ I64 z := fun i hi => by
    have hlt : i < fs.size := by omega
    have := hx i fs[i] (Array.getElem?_eq_getElem hlt)
    obtain ⟨h1, h2⟩ := hf i fs[i] (Array.getElem?_eq_getElem hlt)
    rw [h1, h2, cells1, List.getElem?_eq_getElem (by omega)] at this
    have e : (cs.drop i).take 1 = [cs[i]] := by
      rw [List.drop_eq_getElem_cons hi]; rfl
    rw [e] at this
    obtain ⟨z, hz, hb⟩ := int_of this
    exact ⟨z, by rw [List.getElem?_eq_getElem hi, hz], hb⟩
  clear h hx hxl hf ht hl hcl hxe hfu
  induction cs with
  | nil => exact ⟨[], rfl, fun z hz => by simp at hz⟩
  | cons c cs ih =>
    obtain ⟨zs, h1, h2⟩ := ih fun i hi => by
      have := each (i + 1) (by simpa using hi)
      simpa using this
    obtain ⟨z, hz, hb⟩ := each 0 (by simp)
    simp only [List.getElem?_cons_zero, Option.some.injEq] at hz
    refine ⟨z :: zs, by rw [h1, hz]; rfl, fun y hy => ?_⟩
    rcases List.mem_cons.1 hy with rfl | hy
    · exact hb
    · exact h2 y hy
theorem num5_of {n : Nat} {t : TypeId} {f0 f1 : Field} {cs : List Value} {y : DataW H × List MemPlace} (ht : Try.prog.underlying t = some (.struct #[f0, f1])) (h0 : f0.type = 3 ∧ f0.offset = 0) (h1 : f1.type = 23 ∧ f1.offset = 1) (hl : cs.length = 5)
    (h : DataW.trod enc Try.prog w base spare held n t cs = some y) : ∃ x, Num5 w cs x := by
  obtain ⟨y0, y1, m, _, _, g0, g1⟩ := trod_struct2 ht h
  match cs, hl with
  | [c0, c1, c2, c3, c4], _ =>
    rw [h0.1, h0.2, cells1] at g0
    rw [h1.1, h1.2, cellsRG] at g1
    obtain ⟨z, rfl, hz⟩ := int_of (v := c0) g0
    obtain ⟨zs, hzs, hb⟩ := nums_of Try.underlying23 (fun i f hi => by
      match i, hi with
      | 0, hi => cases hi; exact ⟨rfl, rfl⟩
      | 1, hi => cases hi; exact ⟨rfl, rfl⟩
      | 2, hi => cases hi; exact ⟨rfl, rfl⟩
      | 3, hi => cases hi; exact ⟨rfl, rfl⟩
      | i + 4, hi => cases hi) rfl g1
    refine ⟨z :: zs, ?_, ?_, fun v hv => ?_⟩
    · have := congrArg List.length hzs
      simp [iL] at this
      simp [← this]
    · have : [c1, c2, c3, c4] = iL zs := hzs
      rw [this]; rfl
    · rcases List.mem_cons.1 hv with rfl | hv
      · exact hz
      · exact hb v hv
theorem stops_of {n : Nat} {sv : Value} {y : DataW H × List MemPlace} (h : DataW.trod enc Try.prog w base spare held n 26 [sv] = some y) : ∃ xs, Stops w sv xs :=
  sl_of_trod Try.underlying26 cellsSP (fun n cs y hl h => num5_of Try.underlying65 ⟨rfl, rfl⟩ ⟨rfl, rfl⟩ hl h) h (by omega)
theorem strokes_of {n : Nat} {sv : Value} {y : DataW H × List MemPlace} (h : DataW.trod enc Try.prog w base spare held n 37 [sv] = some y) : ∃ xs, Strokes w sv xs :=
  sl_of_trod Try.underlying37 cellsSK (fun n cs y hl h => num5_of Try.underlying30 ⟨rfl, rfl⟩ ⟨rfl, rfl⟩ hl h) h (by omega)
theorem fill_of {n : Nat} {cs : List Value} {y : DataW H × List MemPlace} (hl : cs.length = 14) (h : DataW.trod enc Try.prog w base spare held n 28 cs = some y) : ∃ F, FillR w cs F := by
  obtain ⟨xs, m, _, _, _, hxl, hx⟩ := DataW.trod_struct Try.underlying28 h
  match cs, hl with
  | [c0, c1, c2, c3, c4, c5, c6, c7, c8, c9, c10, c11, c12, c13], _ =>
    match xs, hxl with
    | [x0, x1, x2, x3, x4, x5], _ =>
      have g0 : DataW.trod enc Try.prog w base spare held m 3 (([c0, c1, c2, c3, c4, c5, c6, c7, c8, c9, c10, c11, c12, c13].drop 0).take (Try.prog.cellsOf 3)) = some x0 := hx 0 _ rfl
      have g1 : DataW.trod enc Try.prog w base spare held m 23 (([c0, c1, c2, c3, c4, c5, c6, c7, c8, c9, c10, c11, c12, c13].drop 1).take (Try.prog.cellsOf 23)) = some x1 := hx 1 _ rfl
      have g2 : DataW.trod enc Try.prog w base spare held m 25 (([c0, c1, c2, c3, c4, c5, c6, c7, c8, c9, c10, c11, c12, c13].drop 5).take (Try.prog.cellsOf 25)) = some x2 := hx 2 _ rfl
      have g3 : DataW.trod enc Try.prog w base spare held m 3 (([c0, c1, c2, c3, c4, c5, c6, c7, c8, c9, c10, c11, c12, c13].drop 11).take (Try.prog.cellsOf 3)) = some x3 := hx 3 _ rfl
      have g4 : DataW.trod enc Try.prog w base spare held m 26 (([c0, c1, c2, c3, c4, c5, c6, c7, c8, c9, c10, c11, c12, c13].drop 12).take (Try.prog.cellsOf 26)) = some x4 := hx 4 _ rfl
      have g5 : DataW.trod enc Try.prog w base spare held m 3 (([c0, c1, c2, c3, c4, c5, c6, c7, c8, c9, c10, c11, c12, c13].drop 13).take (Try.prog.cellsOf 3)) = some x5 := hx 5 _ rfl
      rw [cells1] at g0 g3 g5
      rw [cellsRG] at g1
      rw [cellsMT] at g2
      rw [cellsSS] at g4
      obtain ⟨k, rfl, hk⟩ := int_of (v := c0) g0
      obtain ⟨c, hc, bc⟩ := nums_of (cs := [c1, c2, c3, c4]) Try.underlying23 (fun i f hi => by
        match i, hi with
        | 0, hi => cases hi; exact ⟨rfl, rfl⟩
        | 1, hi => cases hi; exact ⟨rfl, rfl⟩
        | 2, hi => cases hi; exact ⟨rfl, rfl⟩
        | 3, hi => cases hi; exact ⟨rfl, rfl⟩
        | i + 4, hi => cases hi) rfl g1
      obtain ⟨mm, hm, bm⟩ := nums_of (cs := [c5, c6, c7, c8, c9, c10]) Try.underlying25 (fun i f hi => by
        match i, hi with
        | 0, hi => cases hi; exact ⟨rfl, rfl⟩
        | 1, hi => cases hi; exact ⟨rfl, rfl⟩
        | 2, hi => cases hi; exact ⟨rfl, rfl⟩
        | 3, hi => cases hi; exact ⟨rfl, rfl⟩
        | 4, hi => cases hi; exact ⟨rfl, rfl⟩
        | 5, hi => cases hi; exact ⟨rfl, rfl⟩
        | i + 6, hi => cases hi) rfl g2
      obtain ⟨sp, rfl, hsp⟩ := int_of (v := c11) g3
      obtain ⟨st, hst⟩ := stops_of (sv := c12) g4
      obtain ⟨id, rfl, hid⟩ := int_of (v := c13) g5
      have lc : c.length = 4 := by have := congrArg List.length hc; simp [iL] at this; omega
      have lm : mm.length = 6 := by have := congrArg List.length hm; simp [iL] at this; omega
      refine ⟨⟨k, c, mm, sp, st, id⟩, ⟨hk, lc, lm, hsp, hid, bc, bm⟩, c12, ?_, hst⟩
      unfold fillC
      simp only
      rw [← hc, ← hm]
      rfl
theorem fills_of {n : Nat} {sv : Value} {y : DataW H × List MemPlace} (h : DataW.trod enc Try.prog w base spare held n 36 [sv] = some y) : ∃ xs, Fills w sv xs :=
  sl_of_trod Try.underlying36 cellsFL (fun n cs y hl h => fill_of hl h) h (by omega)
end
end Go.Proofs.Ythlnjipefeglpaa
namespace Go.Proofs.Ythlnjipefeglpaa
open Go.RowKit
set_option linter.unusedVariables false
theorem size51 : (Try.prog.info? 46).map (·.size) = some 2 := by kernel_rfl
theorem zero51 (w : World) : (zeroValue 46).run Try.prog w = .ok (.agg #[.string ⟨#[]⟩, .int .i64 0]) w := Try.zeroValue46 w
def Tk (w : World) (b : Nat) (x : RS) : Prop := Blk w b x.cells 141
theorem Tk.keep {w w' : World} {b : Nat} {x : RS} (h : Tk w b x) (k : Below w.heap.size w w') : Tk w' b x := Blk.keep h k
theorem Tk.set {w : World} {b : Nat} {x y : RS} (h : Tk w b x) : Tk (((w.setCell ⟨b, 0, none⟩ (.string y.s)).setCell ⟨b, 1, none⟩ (.int .i64 y.a)).setCell ⟨b, 2, none⟩ (.int .i64 y.e)) b y := ((Blk.set h 0 _).set 1 _).set 2 _
theorem but_refl (p q : Nat) (w : World) : But p q w w := But.of (bq_refl w)
theorem But.trans {p q : Nat} {w w' w'' : World} (h : But p q w w') (k : But p q w' w'') : But p q w w'' :=
  ⟨k.os.trans h.os, k.tape.trans h.tape, k.output.trans h.output, Nat.le_trans h.size k.size, fun i hi hp hq => (k.block i (by have := h.size; omega) hp hq).trans (h.block i hi hp hq)⟩
set_option maxHeartbeats 1000000 in
theorem begin_any (s : ByteArray) (a : Int) (w : World) (hs : s.size ≤ 1000000) :
    Calls Try.prog 77 #[.agg #[.string s, .int .i64 a]] w fun e w' => ∃ b, e = .returned (.pointer (some ⟨b, 0, none⟩)) ∧ Tk w' b (RS.begP s a) ∧ w.heap.size ≤ b ∧ Below w.heap.size w w' := by
  have HA := Lib.hid (fun w => align_any s a w (by omega))
  clear hs
  go_enter Try.func77, Try.ntmps77
  go_wp2_with (first
    | (refine wl_box 46 _ _ rfl rfl (show _ = Value.agg #[.string s, .int .i64 a] from rfl) ?_; intro W1 b1 B1 l1 k1)
    | (refine wl_load 46 2 _ Try.underlying46 rfl size51 _ rfl rfl _ rfl _ _ B1 rfl ?_)
    | (go_at_call 90; (with_reducible refine (HA.out _).mono ?_); rintro e w2 ⟨rfl, k2⟩)
    | (refine wl_box 141 _ _ rfl rfl (show _ = Value.agg (RS.begP s a).cells from rfl) ?_; intro W3 b3 B3 l3 k3))
  go_ret
  exact ⟨b3, rfl, B3, by have := k1.size; have := k2.size; omega, bq_trans (bq_trans k1 k2) k3⟩
section
variable {w : World} {b : Nat} {x : RS}
theorem RS.err {x : RS} (h : x.e ≠ 0) (n : Int) : x.pl n = 0 ∧ x.sg n = 0 ∧ x.go n = x := ⟨if_neg h, if_neg h, if_neg h⟩
theorem RS.fine {x : RS} (h : x.e = 0) (n : Int) : x.pl n = plV x.s x.a n ∧ x.sg n = sgV x.s x.a n ∧ x.go n = ⟨plS x.s x.a n, plA x.s x.a n, plE x.s.size x.a n⟩ := ⟨if_pos h, if_pos h, if_pos h⟩
theorem take_err (f : Nat) (n : Int) (hx : Tk w b x) (he : x.e ≠ 0) :
    Calls Try.prog 102 #[.pointer (some ⟨b, 0, none⟩), .func (.func f) #[] #[], .int .i64 n] w fun e w' => e = .returned (.int .i64 0) ∧ w = w' := by
  have c2 : w.cell? ⟨b, 2, none⟩ = some (.int .i64 x.e) := Blk.cell hx 2
  have q : (x.e != 0) = true := by rw [bne_iff_ne]; exact he
  clear hx he
  go_enter Try.func102, Try.ntmps102
  go_wp2
  go_ret
  exact ⟨rfl, rfl⟩
set_option maxHeartbeats 1000000 in
theorem take_plain (n : Int) (hx : Tk w b x) (hs : x.s.size ≤ 1000000) :
    Calls Try.prog 102 #[.pointer (some ⟨b, 0, none⟩), .func (.func 103) #[] #[], .int .i64 n] w fun e w' => e = .returned (.int .i64 (x.pl n)) ∧ Tk w' b (x.go n) ∧ But b b w w' := by
  by_cases he : x.e = 0
  · obtain ⟨e1, e2, e3⟩ := RS.fine he n
    have HP : Hid (∀ W, Calls Try.prog 103 #[.agg #[.string x.s, .int .i64 x.a], .int .i64 n] W fun e w' => e = .returned (.tuple #[.int .i64 (x.pl n), .agg #[.string (x.go n).s, .int .i64 (x.go n).a], .int .i64 (x.go n).e]) ∧ Below W.heap.size W w') := Lib.hid fun W => by
      rw [e1, e3]
      exact plain_any x.s x.a n W (by omega)
    have c0 : w.cell? ⟨b, 0, none⟩ = some (.string x.s) := Blk.cell hx 0
    have c1 : w.cell? ⟨b, 1, none⟩ = some (.int .i64 x.a) := Blk.cell hx 1
    have c2 : w.cell? ⟨b, 2, none⟩ = some (.int .i64 x.e) := Blk.cell hx 2
    have q : (x.e != 0) = false := by rw [he]; rfl
    have HX := Lib.hid hx
    clear hx he e1 e2 e3 hs
    generalize x.pl n = v at *
    generalize x.go n = y at *
    obtain ⟨xs, xa, xe⟩ := x
    dsimp only at *
    go_enter Try.func102, Try.ntmps102
    go_wp2_with (go_at_call 103; (with_reducible refine (HP.out _).mono ?_); rintro e w2 ⟨rfl, k2⟩; have HX2 := HX.out.keep k2; have d0 : w2.cell? ⟨b, 0, none⟩ = some (.string xs) := Blk.cell HX2 0; have d1 : w2.cell? ⟨b, 1, none⟩ = some (.int .i64 xa) := Blk.cell HX2 1; have d2 : w2.cell? ⟨b, 2, none⟩ = some (.int .i64 xe) := Blk.cell HX2 2; have f0 := Blk.frozen HX2 0; have f1 := Blk.frozen HX2 1; have f2 := Blk.frozen HX2 2)
    go_ret
    exact ⟨rfl, HX2.set, But.setp _ _ (But.setp _ _ (But.setp _ _ (But.of k2)))⟩
  · obtain ⟨e1, e2, e3⟩ := RS.err he n
    rw [e1, e3]
    exact (take_err 103 n hx he).mono fun e w' ⟨h1, h2⟩ => ⟨h1, h2 ▸ hx, h2 ▸ but_refl b b w⟩
theorem tplain_any (n : Int) (hx : Tk w b x) (hs : x.s.size ≤ 1000000) :
    Calls Try.prog 91 #[.pointer (some ⟨b, 0, none⟩), .int .i64 n] w fun e w' => e = .returned (.int .i64 (x.pl n)) ∧ Tk w' b (x.go n) ∧ But b b w w' := by
  have HT := Lib.hid (take_plain n hx hs)
  clear hx hs
  go_enter Try.func91, Try.ntmps91
  go_wp2_with (go_at_call 102; (with_reducible refine HT.out.mono ?_); rintro e w2 ⟨rfl, X2, k2⟩)
  go_ret
  exact ⟨rfl, X2, k2⟩
set_option maxHeartbeats 1000000 in
theorem take_signed (n : Int) (hx : Tk w b x) (hs : x.s.size ≤ 1000000) :
    Calls Try.prog 102 #[.pointer (some ⟨b, 0, none⟩), .func (.func 104) #[] #[], .int .i64 n] w fun e w' => e = .returned (.int .i64 (x.sg n)) ∧ Tk w' b (x.go n) ∧ But b b w w' := by
  by_cases he : x.e = 0
  · obtain ⟨e1, e2, e3⟩ := RS.fine he n
    have HP : Hid (∀ W, Calls Try.prog 104 #[.agg #[.string x.s, .int .i64 x.a], .int .i64 n] W fun e w' => e = .returned (.tuple #[.int .i64 (x.sg n), .agg #[.string (x.go n).s, .int .i64 (x.go n).a], .int .i64 (x.go n).e]) ∧ Below W.heap.size W w') := Lib.hid fun W => by
      rw [e2, e3]
      exact signed_any x.s x.a n W (by omega)
    have c0 : w.cell? ⟨b, 0, none⟩ = some (.string x.s) := Blk.cell hx 0
    have c1 : w.cell? ⟨b, 1, none⟩ = some (.int .i64 x.a) := Blk.cell hx 1
    have c2 : w.cell? ⟨b, 2, none⟩ = some (.int .i64 x.e) := Blk.cell hx 2
    have q : (x.e != 0) = false := by rw [he]; rfl
    have HX := Lib.hid hx
    clear hx he e1 e2 e3 hs
    generalize x.sg n = v at *
    generalize x.go n = y at *
    obtain ⟨xs, xa, xe⟩ := x
    dsimp only at *
    go_enter Try.func102, Try.ntmps102
    go_wp2_with (go_at_call 104; (with_reducible refine (HP.out _).mono ?_); rintro e w2 ⟨rfl, k2⟩; have HX2 := HX.out.keep k2; have d0 : w2.cell? ⟨b, 0, none⟩ = some (.string xs) := Blk.cell HX2 0; have d1 : w2.cell? ⟨b, 1, none⟩ = some (.int .i64 xa) := Blk.cell HX2 1; have d2 : w2.cell? ⟨b, 2, none⟩ = some (.int .i64 xe) := Blk.cell HX2 2; have f0 := Blk.frozen HX2 0; have f1 := Blk.frozen HX2 1; have f2 := Blk.frozen HX2 2)
    go_ret
    exact ⟨rfl, HX2.set, But.setp _ _ (But.setp _ _ (But.setp _ _ (But.of k2)))⟩
  · obtain ⟨e1, e2, e3⟩ := RS.err he n
    rw [e2, e3]
    exact (take_err 104 n hx he).mono fun e w' ⟨h1, h2⟩ => ⟨h1, h2 ▸ hx, h2 ▸ but_refl b b w⟩
theorem tsigned_any (n : Int) (hx : Tk w b x) (hs : x.s.size ≤ 1000000) :
    Calls Try.prog 92 #[.pointer (some ⟨b, 0, none⟩), .int .i64 n] w fun e w' => e = .returned (.int .i64 (x.sg n)) ∧ Tk w' b (x.go n) ∧ But b b w w' := by
  have HT := Lib.hid (take_signed n hx hs)
  clear hx hs
  go_enter Try.func92, Try.ntmps92
  go_wp2_with (go_at_call 102; (with_reducible refine HT.out.mono ?_); rintro e w2 ⟨rfl, X2, k2⟩)
  go_ret
  exact ⟨rfl, X2, k2⟩
theorem tbit_any (hx : Tk w b x) (hs : x.s.size ≤ 1000000) :
    Calls Try.prog 78 #[.pointer (some ⟨b, 0, none⟩)] w fun e w' => e = .returned (.bool (x.pl 1 == 1)) ∧ Tk w' b (x.go 1) ∧ But b b w w' := by
  have HT := Lib.hid (tplain_any 1 hx hs)
  clear hx hs
  go_enter Try.func78, Try.ntmps78
  go_wp2_with (go_at_call 91; (with_reducible refine HT.out.mono ?_); rintro e w2 ⟨rfl, X2, k2⟩)
  go_ret
  exact ⟨rfl, X2, k2⟩
def RS.sevL (x : RS) (h : Int) (k : Nat) : List Int := (x.go h).l (x.pl h) k
def RS.sevS (x : RS) (h : Int) (k : Nat) : RS := (x.go h).on (x.pl h) k
theorem tpair_any (hx : Tk w b x) (hs : x.s.size ≤ 1000000) :
    Calls Try.prog 79 #[.pointer (some ⟨b, 0, none⟩)] w fun e w' => e = .returned (.tuple #[.int .i64 ((x.go 5).sg (x.pl 5)), .int .i64 (((x.go 5).go (x.pl 5)).sg (x.pl 5))]) ∧ Tk w' b (x.sevS 5 2) ∧ But b b w w' := by
  have HT := Lib.hid (tplain_any 5 hx hs)
  have HS1 := Lib.hid (fun W (h : Tk W b (x.go 5)) => tsigned_any (x.pl 5) h (RS.go_size _ _ hs))
  have HS2 := Lib.hid (fun W (h : Tk W b ((x.go 5).go (x.pl 5))) => tsigned_any (x.pl 5) h (RS.go_size _ _ (RS.go_size _ _ hs)))
  have HE : Hid (((x.go 5).go (x.pl 5)).go (x.pl 5) = x.sevS 5 2) := Lib.hid rfl
  clear hx hs
  generalize x.pl 5 = n at *
  generalize (x.go 5).sg n = v1 at *
  generalize ((x.go 5).go n).sg n = v2 at *
  go_enter Try.func79, Try.ntmps79
  go_wp2_with (first
    | (go_at_call 91; (with_reducible refine HT.out.mono ?_); rintro e w2 ⟨rfl, X2, k2⟩)
    | (go_at_call 92; (with_reducible refine (HS2.out _ X3).mono ?_); rintro e w4 ⟨rfl, X4, k4⟩)
    | (go_at_call 92; (with_reducible refine (HS1.out _ X2).mono ?_); rintro e w3 ⟨rfl, X3, k3⟩))
  go_ret2
  exact ⟨rfl, HE.out ▸ X4, (k2.trans k3).trans k4⟩
def fill4 (l : List Int) : List Int := l ++ List.replicate (4 - l.length) 0
end
end Go.Proofs.Ythlnjipefeglpaa
namespace Go.Proofs.Ythlnjipefeglpaa
open Go.RowKit
set_option linter.unusedVariables false
theorem list4 (l : List Int) (h : l.length = 4) : ∃ a b c d, l = [a, b, c, d] := by
  match l, h with
  | [a, b, c, d], _ => exact ⟨a, b, c, d, rfl⟩
theorem list6 (l : List Int) (h : l.length = 6) : ∃ a b c d e f, l = [a, b, c, d, e, f] := by
  match l, h with
  | [a, b, c, d, e, f], _ => exact ⟨a, b, c, d, e, f, rfl⟩
def rectOkL : List Int → Bool
  | [a, b, c, d] => rectOk a b c d
  | _ => false
def matOkL : List Int → Bool
  | [a, b, c, d, x, y] => matOk a b c d x y
  | _ => false
def rectS (x : RS) : RS := (x.sevS 5 4).fin (rectOkL (x.sevL 5 4))
def rectV (x : RS) : List Int := if (rectS x).e = 0 then x.sevL 5 4 else [0, 0, 0, 0]
theorem sevL_len (x : RS) (h : Int) (k : Nat) : (x.sevL h k).length = k := RS.l_len _ _ _
theorem sevS_size (x : RS) (h : Int) (k : Nat) {m : Nat} (hs : x.s.size ≤ m) : (x.sevS h k).s.size ≤ m := RS.on_size _ _ _ (RS.go_size _ _ hs)
theorem sev2 (x : RS) : x.sevL 5 2 = [(x.go 5).sg (x.pl 5), ((x.go 5).go (x.pl 5)).sg (x.pl 5)] := rfl
def mB1 (x : RS) : Bool := x.pl 1 == 1
def mAD (x : RS) : List Int := if mB1 x = true then (x.go 1).sevL 5 2 else [65536, 65536]
def mx2 (x : RS) : RS := if mB1 x = true then (x.go 1).sevS 5 2 else x.go 1
def mBC (y : RS) : List Int := if mB1 y = true then (y.go 1).sevL 5 2 else [0, 0]
def mx5 (x : RS) : RS := (mx2 (mx2 x)).sevS 5 2
def matL (x : RS) : List Int := [(mAD x).getD 0 0, (mBC (mx2 x)).getD 0 0, (mBC (mx2 x)).getD 1 0, (mAD x).getD 1 0, ((mx2 (mx2 x)).sevL 5 2).getD 0 0, ((mx2 (mx2 x)).sevL 5 2).getD 1 0]
def matS (x : RS) : RS := (mx5 x).fin (matOkL (matL x))
def matV (x : RS) : List Int := if (matS x).e = 0 then matL x else [0, 0, 0, 0, 0, 0]
theorem matV_len (x : RS) : (matV x).length = 6 := by unfold matV; split <;> rfl
theorem mx2_size (x : RS) {m : Nat} (hs : x.s.size ≤ m) : (mx2 x).s.size ≤ m := by
  unfold mx2
  split
  · exact sevS_size _ _ _ (RS.go_size _ _ hs)
  · exact RS.go_size _ _ hs
def cAd (x : RS) : Bool := x.pl 1 == 1
def cMu (x : RS) : Bool := (x.go 1).pl 1 == 1
def cN (x : RS) : Int := ((x.go 1).go 1).pl 4
def cx3 (x : RS) : RS := ((x.go 1).go 1).go 4
def cMs (x : RS) : List Int := if cMu x = true then (cx3 x).l (cN x) 4 else [256, 256, 256, 256]
def cx4 (x : RS) : RS := if cMu x = true then (cx3 x).on (cN x) 4 else cx3 x
def cDs (x : RS) : List Int := if cAd x = true then (cx4 x).l (cN x) 4 else [0, 0, 0, 0]
def cx5 (x : RS) : RS := if cAd x = true then (cx4 x).on (cN x) 4 else cx4 x
def cxS (x : RS) : RS := (cx5 x).fin (cxOk (cMs x) (cDs x))
def cxV (x : RS) : List Int := if (cxS x).e = 0 then cMs x ++ cDs x else [0, 0, 0, 0, 0, 0, 0, 0]
theorem sg_fit (x : RS) (n : Int) : I64 (x.sg n) := by
  have := RS.sg_bd x n
  unfold I64
  omega
theorem small_fit (v : Int) (h0 : 0 ≤ v) (h1 : v ≤ 100000) : I64 v := by unfold I64; omega
theorem mAD_fit (x : RS) : I64 ((mAD x).getD 0 0) ∧ I64 ((mAD x).getD 1 0) := by
  unfold mAD
  split
  · rw [sev2]; exact ⟨sg_fit _ _, sg_fit _ _⟩
  · exact ⟨small_fit _ (by decide) (by decide), small_fit _ (by decide) (by decide)⟩
theorem mBC_fit (x : RS) : I64 ((mBC x).getD 0 0) ∧ I64 ((mBC x).getD 1 0) := by
  unfold mBC
  split
  · rw [sev2]; exact ⟨sg_fit _ _, sg_fit _ _⟩
  · exact ⟨small_fit _ (by decide) (by decide), small_fit _ (by decide) (by decide)⟩
end Go.Proofs.Ythlnjipefeglpaa
