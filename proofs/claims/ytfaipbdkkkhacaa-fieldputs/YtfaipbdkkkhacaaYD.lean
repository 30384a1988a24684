import Derived.Test.YtfaipbdkkkhacaaYC
import Derived.Deep.RegionHeld3
import Derived.BigRegion
/- Layer 7: what takes fields one by one. -/
namespace Go.Proofs.Ytfaipbdkkkhacaa
open Go.RowKit
set_option linter.unusedVariables false

theorem size51 : (Try.prog.info? 51).map (·.size) = some 2 := by kernel_rfl
theorem size115 : (Try.prog.info? 115).map (·.size) = some 3 := by kernel_rfl
theorem zero51 (w : World) : (zeroValue 51).run Try.prog w = .ok (.agg #[.string ⟨#[]⟩, .int .i64 0]) w := Try.zeroValue51 w
/-- a taker in block b -/
def Tk (w : World) (b : Nat) (x : RS) : Prop := Blk w b x.cells 115
theorem Tk.keep {w w' : World} {b : Nat} {x : RS} (h : Tk w b x) (k : Below w.heap.size w w') : Tk w' b x := Blk.keep h k
theorem Tk.set {w : World} {b : Nat} {x y : RS} (h : Tk w b x) : Tk (((w.setCell ⟨b, 0, none⟩ (.string y.s)).setCell ⟨b, 1, none⟩ (.int .i64 y.a)).setCell ⟨b, 2, none⟩ (.int .i64 y.e)) b y := ((Blk.set h 0 _).set 1 _).set 2 _
theorem but_refl (p q : Nat) (w : World) : But p q w w := But.of (bq_refl w)
theorem But.trans {p q : Nat} {w w' w'' : World} (h : But p q w w') (k : But p q w' w'') : But p q w w'' :=
  ⟨k.os.trans h.os, k.tape.trans h.tape, k.output.trans h.output, Nat.le_trans h.size k.size, fun i hi hp hq => (k.block i (by have := h.size; omega) hp hq).trans (h.block i hi hp hq)⟩
set_option maxHeartbeats 1000000 in
theorem begin_any (s : ByteArray) (a : Int) (w : World) (hs : s.size ≤ 1000000) :
    Calls Try.prog 46 #[.agg #[.string s, .int .i64 a]] w fun e w' => ∃ b, e = .returned (.pointer (some ⟨b, 0, none⟩)) ∧ Tk w' b (RS.begP s a) ∧ w.heap.size ≤ b ∧ Below w.heap.size w w' := by
  have HA := Lib.hid (fun w => align_any s a w (by omega))
  clear hs
  go_enter Try.func46, Try.ntmps46
  go_wp2_with (first
    | (refine wl_box 51 _ _ rfl rfl (show _ = Value.agg #[.string s, .int .i64 a] from rfl) ?_; intro W1 b1 B1 l1 k1)
    | (refine wl_load 51 2 _ Try.underlying51 rfl size51 _ rfl rfl _ rfl _ _ B1 rfl ?_)
    | (go_at_call 66; (with_reducible refine (HA.out _).mono ?_); rintro e w2 ⟨rfl, k2⟩)
    | (refine wl_box 115 _ _ rfl rfl (show _ = Value.agg (RS.begP s a).cells from rfl) ?_; intro W3 b3 B3 l3 k3))
  go_ret
  exact ⟨b3, rfl, B3, by have := k1.size; have := k2.size; omega, bq_trans (bq_trans k1 k2) k3⟩
section
variable {w : World} {b : Nat} {x : RS}
theorem RS.err {x : RS} (h : x.e ≠ 0) (n : Int) : x.pl n = 0 ∧ x.sg n = 0 ∧ x.go n = x := ⟨if_neg h, if_neg h, if_neg h⟩
theorem RS.fine {x : RS} (h : x.e = 0) (n : Int) : x.pl n = plV x.s x.a n ∧ x.sg n = sgV x.s x.a n ∧ x.go n = ⟨plS x.s x.a n, plA x.s x.a n, plE x.s.size x.a n⟩ := ⟨if_pos h, if_pos h, if_pos h⟩
theorem But.far {p q g : Nat} {w w' : World} (h : But p q w w') (hg : w.heap.size ≤ g) (i : Nat) (v : Value) : But p q w (w'.setCell ⟨g, i, none⟩ v) :=
  ⟨h.os, h.tape, h.output, by simpa [World.setCell] using h.size, fun k hk hp hq => by rw [heap_setCell_other w' ⟨g, i, none⟩ k v (by show k ≠ g; omega)]; exact h.block k hk hp hq⟩
theorem But.turned {p q g : Nat} {w w' w'' : World} (h : But p q w w') (T : Turned g w' w'') (hg : w.heap.size ≤ g) : But p q w w'' :=
  ⟨T.os.trans h.os, T.tape.trans h.tape, T.output.trans h.output, by rw [T.size]; exact h.size, fun k hk hp hq => by rw [T.block k (by omega)]; exact h.block k hk hp hq⟩
theorem take_err (f : Nat) (n : Int) (hx : Tk w b x) (he : x.e ≠ 0) :
    Calls Try.prog 68 #[.pointer (some ⟨b, 0, none⟩), .func (.func f) #[] #[], .int .i64 n] w fun e w' => e = .returned (.int .i64 0) ∧ w = w' := by
  have c2 : w.cell? ⟨b, 2, none⟩ = some (.int .i64 x.e) := Blk.cell hx 2
  have q : (x.e != 0) = true := by rw [bne_iff_ne]; exact he
  clear hx he
  go_enter Try.func68, Try.ntmps68
  go_wp2
  go_ret
  exact ⟨rfl, rfl⟩
set_option maxHeartbeats 1000000 in
theorem take_plain (n : Int) (hx : Tk w b x) (hs : x.s.size ≤ 1000000) :
    Calls Try.prog 68 #[.pointer (some ⟨b, 0, none⟩), .func (.func 69) #[] #[], .int .i64 n] w fun e w' => e = .returned (.int .i64 (x.pl n)) ∧ Tk w' b (x.go n) ∧ But b b w w' := by
  by_cases he : x.e = 0
  · obtain ⟨e1, e2, e3⟩ := RS.fine he n
    have HP : Hid (∀ W, Calls Try.prog 69 #[.agg #[.string x.s, .int .i64 x.a], .int .i64 n] W fun e w' => e = .returned (.tuple #[.int .i64 (x.pl n), .agg #[.string (x.go n).s, .int .i64 (x.go n).a], .int .i64 (x.go n).e]) ∧ Below W.heap.size W w') := Lib.hid fun W => by
      rw [e1, e3]
      exact plain_any x.s x.a n W (by omega)
    have c0 : w.cell? ⟨b, 0, none⟩ = some (.string x.s) := Blk.cell hx 0
    have c1 : w.cell? ⟨b, 1, none⟩ = some (.int .i64 x.a) := Blk.cell hx 1
    have c2 : w.cell? ⟨b, 2, none⟩ = some (.int .i64 x.e) := Blk.cell hx 2
    have q : (x.e != 0) = false := by rw [he]; rfl
    have HX := Lib.hid hx
    clear hx he e1 e2 e3 hs
    generalize x.pl n = v at *
    generalize x.go n = y at *
    obtain ⟨xs, xa, xe⟩ := x
    dsimp only at *
    go_enter Try.func68, Try.ntmps68
    go_wp2_with (go_at_call 69; (with_reducible refine (HP.out _).mono ?_); rintro e w2 ⟨rfl, k2⟩; have HX2 := HX.out.keep k2; have d0 : w2.cell? ⟨b, 0, none⟩ = some (.string xs) := Blk.cell HX2 0; have d1 : w2.cell? ⟨b, 1, none⟩ = some (.int .i64 xa) := Blk.cell HX2 1; have d2 : w2.cell? ⟨b, 2, none⟩ = some (.int .i64 xe) := Blk.cell HX2 2; have f0 := Blk.frozen HX2 0; have f1 := Blk.frozen HX2 1; have f2 := Blk.frozen HX2 2)
    go_ret
    exact ⟨rfl, HX2.set, But.setp _ _ (But.setp _ _ (But.setp _ _ (But.of k2)))⟩
  · obtain ⟨e1, e2, e3⟩ := RS.err he n
    rw [e1, e3]
    exact (take_err 69 n hx he).mono fun e w' ⟨h1, h2⟩ => ⟨h1, h2 ▸ hx, h2 ▸ but_refl b b w⟩
theorem tplain_any (n : Int) (hx : Tk w b x) (hs : x.s.size ≤ 1000000) :
    Calls Try.prog 48 #[.pointer (some ⟨b, 0, none⟩), .int .i64 n] w fun e w' => e = .returned (.int .i64 (x.pl n)) ∧ Tk w' b (x.go n) ∧ But b b w w' := by
  have HT := Lib.hid (take_plain n hx hs)
  clear hx hs
  go_enter Try.func48, Try.ntmps48
  go_wp2_with (go_at_call 68; (with_reducible refine HT.out.mono ?_); rintro e w2 ⟨rfl, X2, k2⟩)
  go_ret
  exact ⟨rfl, X2, k2⟩
set_option maxHeartbeats 1000000 in
theorem take_signed (n : Int) (hx : Tk w b x) (hs : x.s.size ≤ 1000000) :
    Calls Try.prog 68 #[.pointer (some ⟨b, 0, none⟩), .func (.func 81) #[] #[], .int .i64 n] w fun e w' => e = .returned (.int .i64 (x.sg n)) ∧ Tk w' b (x.go n) ∧ But b b w w' := by
  by_cases he : x.e = 0
  · obtain ⟨e1, e2, e3⟩ := RS.fine he n
    have HP : Hid (∀ W, Calls Try.prog 81 #[.agg #[.string x.s, .int .i64 x.a], .int .i64 n] W fun e w' => e = .returned (.tuple #[.int .i64 (x.sg n), .agg #[.string (x.go n).s, .int .i64 (x.go n).a], .int .i64 (x.go n).e]) ∧ Below W.heap.size W w') := Lib.hid fun W => by
      rw [e2, e3]
      exact signed_any x.s x.a n W (by omega)
    have c0 : w.cell? ⟨b, 0, none⟩ = some (.string x.s) := Blk.cell hx 0
    have c1 : w.cell? ⟨b, 1, none⟩ = some (.int .i64 x.a) := Blk.cell hx 1
    have c2 : w.cell? ⟨b, 2, none⟩ = some (.int .i64 x.e) := Blk.cell hx 2
    have q : (x.e != 0) = false := by rw [he]; rfl
    have HX := Lib.hid hx
    clear hx he e1 e2 e3 hs
    generalize x.sg n = v at *
    generalize x.go n = y at *
    obtain ⟨xs, xa, xe⟩ := x
    dsimp only at *
    go_enter Try.func68, Try.ntmps68
    go_wp2_with (go_at_call 81; (with_reducible refine (HP.out _).mono ?_); rintro e w2 ⟨rfl, k2⟩; have HX2 := HX.out.keep k2; have d0 : w2.cell? ⟨b, 0, none⟩ = some (.string xs) := Blk.cell HX2 0; have d1 : w2.cell? ⟨b, 1, none⟩ = some (.int .i64 xa) := Blk.cell HX2 1; have d2 : w2.cell? ⟨b, 2, none⟩ = some (.int .i64 xe) := Blk.cell HX2 2; have f0 := Blk.frozen HX2 0; have f1 := Blk.frozen HX2 1; have f2 := Blk.frozen HX2 2)
    go_ret
    exact ⟨rfl, HX2.set, But.setp _ _ (But.setp _ _ (But.setp _ _ (But.of k2)))⟩
  · obtain ⟨e1, e2, e3⟩ := RS.err he n
    rw [e2, e3]
    exact (take_err 81 n hx he).mono fun e w' ⟨h1, h2⟩ => ⟨h1, h2 ▸ hx, h2 ▸ but_refl b b w⟩
theorem tsigned_any (n : Int) (hx : Tk w b x) (hs : x.s.size ≤ 1000000) :
    Calls Try.prog 67 #[.pointer (some ⟨b, 0, none⟩), .int .i64 n] w fun e w' => e = .returned (.int .i64 (x.sg n)) ∧ Tk w' b (x.go n) ∧ But b b w w' := by
  have HT := Lib.hid (take_signed n hx hs)
  clear hx hs
  go_enter Try.func67, Try.ntmps67
  go_wp2_with (go_at_call 68; (with_reducible refine HT.out.mono ?_); rintro e w2 ⟨rfl, X2, k2⟩)
  go_ret
  exact ⟨rfl, X2, k2⟩
theorem tbit_any (hx : Tk w b x) (hs : x.s.size ≤ 1000000) :
    Calls Try.prog 50 #[.pointer (some ⟨b, 0, none⟩)] w fun e w' => e = .returned (.bool (x.pl 1 == 1)) ∧ Tk w' b (x.go 1) ∧ But b b w w' := by
  have HT := Lib.hid (tplain_any 1 hx hs)
  clear hx hs
  go_enter Try.func50, Try.ntmps50
  go_wp2_with (go_at_call 48; (with_reducible refine HT.out.mono ?_); rintro e w2 ⟨rfl, X2, k2⟩)
  go_ret
  exact ⟨rfl, X2, k2⟩
/-- two numbers, behind their width -/
def RS.sevL (x : RS) (h : Int) (k : Nat) : List Int := (x.go h).l (x.pl h) k
def RS.sevS (x : RS) (h : Int) (k : Nat) : RS := (x.go h).on (x.pl h) k
theorem tpair_any (hx : Tk w b x) (hs : x.s.size ≤ 1000000) :
    Calls Try.prog 51 #[.pointer (some ⟨b, 0, none⟩)] w fun e w' => e = .returned (.tuple #[.int .i64 ((x.go 5).sg (x.pl 5)), .int .i64 (((x.go 5).go (x.pl 5)).sg (x.pl 5))]) ∧ Tk w' b (x.sevS 5 2) ∧ But b b w w' := by
  have HT := Lib.hid (tplain_any 5 hx hs)
  have HS1 := Lib.hid (fun W (h : Tk W b (x.go 5)) => tsigned_any (x.pl 5) h (RS.go_size _ _ hs))
  have HS2 := Lib.hid (fun W (h : Tk W b ((x.go 5).go (x.pl 5))) => tsigned_any (x.pl 5) h (RS.go_size _ _ (RS.go_size _ _ hs)))
  have HE : Hid (((x.go 5).go (x.pl 5)).go (x.pl 5) = x.sevS 5 2) := Lib.hid rfl
  clear hx hs
  generalize x.pl 5 = n at *
  generalize (x.go 5).sg n = v1 at *
  generalize ((x.go 5).go n).sg n = v2 at *
  go_enter Try.func51, Try.ntmps51
  go_wp2_with (first
    | (go_at_call 48; (with_reducible refine HT.out.mono ?_); rintro e w2 ⟨rfl, X2, k2⟩)
    | (go_at_call 67; (with_reducible refine (HS2.out _ X3).mono ?_); rintro e w4 ⟨rfl, X4, k4⟩)
    | (go_at_call 67; (with_reducible refine (HS1.out _ X2).mono ?_); rintro e w3 ⟨rfl, X3, k3⟩))
  go_ret2
  exact ⟨rfl, HE.out ▸ X4, (k2.trans k3).trans k4⟩
theorem size28' : (Try.prog.info? 28).map (·.size) = some 4 := by kernel_rfl
theorem zero28 (w : World) : (zeroValue 28).run Try.prog w = .ok (.agg (iA [0, 0, 0, 0])) w := Try.zeroValue28 w
/-- a list of four, the first ones told -/
def fill4 (l : List Int) : List Int := l ++ List.replicate (4 - l.length) 0
theorem fill4_len (l : List Int) (h : l.length ≤ 4) : (fill4 l).length = 4 := by simp [fill4]; omega
theorem fill4_all (l : List Int) (h : l.length = 4) : fill4 l = l := by simp [fill4, h]
theorem fill4_set (l : List Int) (v : Int) (h : l.length < 4) : (iA (fill4 l)).setIfInBounds l.length (.int .i64 v) = iA (fill4 (l ++ [v])) := by
  apply Array.ext'
  rw [Array.toList_setIfInBounds]
  simp only [iA, fill4]
  obtain ⟨k, hk⟩ : ∃ k, 4 - l.length = k + 1 := ⟨3 - l.length, by omega⟩
  have e : 4 - (l ++ [v]).length = k := by simp; omega
  rw [hk, e, List.replicate_succ]
  simp
def FoRel (w : World) (x : RS) (n : Int) (b b0 b1 : Nat) (i : Value) (wr : World) : Prop :=
  ∃ k : Nat, k ≤ 4 ∧ i = .int .i64 k ∧ Tk wr b (x.on n k) ∧ Blk wr b1 (iA (fill4 (x.l n k))) 28 ∧ Blk wr b0 (iA [0, 0, 0, 0]) 28 ∧ But b b w wr
set_option maxHeartbeats 1000000 in
theorem tfour_any (n : Int) (hx : Tk w b x) (hs : x.s.size ≤ 1000000) :
    Calls Try.prog 47 #[.pointer (some ⟨b, 0, none⟩), .int .i64 n] w fun e w' => e = .returned (.agg (iA (x.l n 4))) ∧ Tk w' b (x.on n 4) ∧ But b b w w' := by
  have HS := Lib.hid (fun k W (h : Tk W b (x.on n k)) => tsigned_any n h (RS.on_size _ _ _ hs))
  have hb := Blk.lt hx
  go_enter Try.func47, Try.ntmps47
  have dm : True := True.intro
  go_wp2_with (first
    | (refine wl_alloc 28 _ zero28 rfl rfl ?_; intro W0 b0 B0 l0 k0; clear dm)
    | (refine wl_alloc 28 _ zero28 rfl rfl ?_; intro W1 b1 B1 l1 k1))
  have HX := Lib.hid ((hx.keep k0).keep k1)
  have HB := Lib.hid (But.of (p := b) (q := b) (bq_trans k0 k1))
  have B2 := B0.keep k1
  have n0 : b0 ≠ b := by omega
  have n1 : b1 ≠ b := by have := k0.size; omega
  have n01 : b0 ≠ b1 := by have := B0.lt; omega
  have g0 : w.heap.size ≤ b0 := l0
  have g1 : w.heap.size ≤ b1 := by have := k0.size; omega
  clear B0 k0 k1 l0 l1 hx hs
  go_loopw [7] (fun i wr => FoRel w x n b b0 b1 i wr) (fun i _ => 4 - (intOf i).toNat)
  case atStart => exact ⟨0, by omega, rfl, HX.out, B1, B2, HB.out⟩
  case round =>
    obtain ⟨k, hk, rfl, X, C1, C0, hbut⟩ := hrel
    have HB2 := Lib.hid hbut
    clear hbut B1 B2 HX HB
    by_cases hlt : k < 4
    · have hlk : (x.l n k).length = k := RS.l_len x n k
      have HF : Hid ((iA (fill4 (x.l n k))).setIfInBounds k (.int .i64 ((x.on n k).sg n)) = iA (fill4 (x.l n (k + 1)))) := Lib.hid (by
        have := fill4_set (x.l n k) ((x.on n k).sg n) (by omega)
        rw [hlk] at this
        exact this)
      have HS2 := Lib.hid (HS.out k _ X)
      have hsz : k < (iA (fill4 (x.l n k))).size := by rw [iA_size, fill4_len _ (by omega)]; omega
      generalize (x.on n k).sg n = v at *
      go_wp2_with (go_at_call 67; (with_reducible refine HS2.out.mono ?_); rintro e w2 ⟨rfl, X2, k2⟩; have D1 := C1.but k2 n1 n1; have D0 := C0.but k2 n0 n0; have cc := D1.isSome k hsz; obtain ⟨ov, hov⟩ := Option.isSome_iff_exists.1 cc; have fc := D1.frozen k)
      have E1 := D1.set k (.int .i64 v)
      rw [HF.out] at E1
      have E0 := D0.other (a := ⟨b1, k, none⟩) (.int .i64 v) n01
      have X3 : Tk (w2.setCell ⟨b1, k, none⟩ (.int .i64 v)) b ((x.on n k).go n) := Blk.other X2 (a := ⟨b1, k, none⟩) (.int .i64 v) (Ne.symm n1)
      have HB3 := Lib.hid ((HB2.out.trans k2).far g1 k (.int .i64 v))
      go_roundw
      case rel => exact ⟨k + 1, by omega, by go_num, X3, E1, E0, HB3.out⟩
      case measure => simp [intOf]; omega
    · obtain rfl : k = 4 := by omega
      rw [fill4_all _ (RS.l_len x n 4)] at C1
      have s4 : (iA (x.l n 4)).size = 4 := by rw [iA_size, RS.l_len]
      go_wp2_with (first
        | (refine wl_load 28 4 _ Try.underlying28 rfl size28' _ rfl rfl _ rfl _ _ C1 s4 ?_)
        | (refine wl_store 28 4 size28' _ _ rfl rfl _ rfl _ rfl _ _ C0 rfl s4 (iA_one _) ?_; intro W8 B8 T8))
      have X8 : Tk W8 b (x.on n 4) := T8.blk X (Ne.symm n0)
      exact post_cell Try.underlying28 rfl size28' Try.results47 B8 s4 rfl rfl ⟨rfl, X8, HB2.out.turned T8 g0⟩
end
end Go.Proofs.Ytfaipbdkkkhacaa
/- Layer 7: what is taken, by definition. -/
namespace Go.Proofs.Ytfaipbdkkkhacaa
open Go.RowKit
set_option linter.unusedVariables false

theorem list4 (l : List Int) (h : l.length = 4) : ∃ a b c d, l = [a, b, c, d] := by
  match l, h with
  | [a, b, c, d], _ => exact ⟨a, b, c, d, rfl⟩
theorem list6 (l : List Int) (h : l.length = 6) : ∃ a b c d e f, l = [a, b, c, d, e, f] := by
  match l, h with
  | [a, b, c, d, e, f], _ => exact ⟨a, b, c, d, e, f, rfl⟩
theorem list8 (l : List Int) (h : l.length = 8) : ∃ a b c d e f g i, l = [a, b, c, d, e, f, g, i] := by
  match l, h with
  | [a, b, c, d, e, f, g, i], _ => exact ⟨a, b, c, d, e, f, g, i, rfl⟩
def rectOkL : List Int → Bool
  | [a, b, c, d] => rectOk a b c d
  | _ => false
def matOkL : List Int → Bool
  | [a, b, c, d, x, y] => matOk a b c d x y
  | _ => false
/-- the rectangle -/
def rectS (x : RS) : RS := (x.sevS 5 4).fin (rectOkL (x.sevL 5 4))
def rectV (x : RS) : List Int := if (rectS x).e = 0 then x.sevL 5 4 else [0, 0, 0, 0]
theorem sevL_len (x : RS) (h : Int) (k : Nat) : (x.sevL h k).length = k := RS.l_len _ _ _
theorem sevS_size (x : RS) (h : Int) (k : Nat) {m : Nat} (hs : x.s.size ≤ m) : (x.sevS h k).s.size ≤ m := RS.on_size _ _ _ (RS.go_size _ _ hs)
theorem rectV_len (x : RS) : (rectV x).length = 4 := by
  unfold rectV
  split
  · exact sevL_len _ _ _
  · rfl
theorem sev2 (x : RS) : x.sevL 5 2 = [(x.go 5).sg (x.pl 5), ((x.go 5).go (x.pl 5)).sg (x.pl 5)] := rfl
/-- the matrix -/
def mB1 (x : RS) : Bool := x.pl 1 == 1
def mAD (x : RS) : List Int := if mB1 x = true then (x.go 1).sevL 5 2 else [65536, 65536]
def mx2 (x : RS) : RS := if mB1 x = true then (x.go 1).sevS 5 2 else x.go 1
def mBC (y : RS) : List Int := if mB1 y = true then (y.go 1).sevL 5 2 else [0, 0]
def mx5 (x : RS) : RS := (mx2 (mx2 x)).sevS 5 2
def matL (x : RS) : List Int := [(mAD x).getD 0 0, (mBC (mx2 x)).getD 0 0, (mBC (mx2 x)).getD 1 0, (mAD x).getD 1 0, ((mx2 (mx2 x)).sevL 5 2).getD 0 0, ((mx2 (mx2 x)).sevL 5 2).getD 1 0]
def matS (x : RS) : RS := (mx5 x).fin (matOkL (matL x))
def matV (x : RS) : List Int := if (matS x).e = 0 then matL x else [0, 0, 0, 0, 0, 0]
theorem matV_len (x : RS) : (matV x).length = 6 := by unfold matV; split <;> rfl
theorem mx2_size (x : RS) {m : Nat} (hs : x.s.size ≤ m) : (mx2 x).s.size ≤ m := by
  unfold mx2
  split
  · exact sevS_size _ _ _ (RS.go_size _ _ hs)
  · exact RS.go_size _ _ hs
/-- the change -/
def cAd (x : RS) : Bool := x.pl 1 == 1
def cMu (x : RS) : Bool := (x.go 1).pl 1 == 1
def cN (x : RS) : Int := ((x.go 1).go 1).pl 4
def cx3 (x : RS) : RS := ((x.go 1).go 1).go 4
def cMs (x : RS) : List Int := if cMu x = true then (cx3 x).l (cN x) 4 else [256, 256, 256, 256]
def cx4 (x : RS) : RS := if cMu x = true then (cx3 x).on (cN x) 4 else cx3 x
def cDs (x : RS) : List Int := if cAd x = true then (cx4 x).l (cN x) 4 else [0, 0, 0, 0]
def cx5 (x : RS) : RS := if cAd x = true then (cx4 x).on (cN x) 4 else cx4 x
def cxS (x : RS) : RS := (cx5 x).fin (cxOk (cMs x) (cDs x))
def cxV (x : RS) : List Int := if (cxS x).e = 0 then cMs x ++ cDs x else [0, 0, 0, 0, 0, 0, 0, 0]
theorem cMs_len (x : RS) : (cMs x).length = 4 := by
  unfold cMs
  split
  · exact RS.l_len _ _ _
  · rfl
theorem cDs_len (x : RS) : (cDs x).length = 4 := by
  unfold cDs
  split
  · exact RS.l_len _ _ _
  · rfl
theorem cxV_len (x : RS) : (cxV x).length = 8 := by
  unfold cxV
  split
  · rw [List.length_append, cMs_len, cDs_len]
  · rfl
theorem cx3_size (x : RS) {m : Nat} (hs : x.s.size ≤ m) : (cx3 x).s.size ≤ m := RS.go_size _ _ (RS.go_size _ _ (RS.go_size _ _ hs))
theorem cx4_size (x : RS) {m : Nat} (hs : x.s.size ≤ m) : (cx4 x).s.size ≤ m := by
  unfold cx4
  split
  · exact RS.on_size _ _ _ (cx3_size x hs)
  · exact cx3_size x hs
theorem cx5_size (x : RS) {m : Nat} (hs : x.s.size ≤ m) : (cx5 x).s.size ≤ m := by
  unfold cx5
  split
  · exact RS.on_size _ _ _ (cx4_size x hs)
  · exact cx4_size x hs
/-- all of these fit an int -/
theorem l_fit (x : RS) (n : Int) (k : Nat) : ∀ v ∈ x.l n k, I64 v := fun v hv => by
  have := RS.l_bd x n k v hv
  unfold I64
  omega
theorem sg_fit (x : RS) (n : Int) : I64 (x.sg n) := by
  have := RS.sg_bd x n
  unfold I64
  omega
theorem small_fit (v : Int) (h0 : 0 ≤ v) (h1 : v ≤ 100000) : I64 v := by unfold I64; omega
theorem mAD_fit (x : RS) : I64 ((mAD x).getD 0 0) ∧ I64 ((mAD x).getD 1 0) := by
  unfold mAD
  split
  · rw [sev2]; exact ⟨sg_fit _ _, sg_fit _ _⟩
  · exact ⟨small_fit _ (by decide) (by decide), small_fit _ (by decide) (by decide)⟩
theorem mBC_fit (x : RS) : I64 ((mBC x).getD 0 0) ∧ I64 ((mBC x).getD 1 0) := by
  unfold mBC
  split
  · rw [sev2]; exact ⟨sg_fit _ _, sg_fit _ _⟩
  · exact ⟨small_fit _ (by decide) (by decide), small_fit _ (by decide) (by decide)⟩
theorem cMs_fit (x : RS) : ∀ v ∈ cMs x, I64 v := by
  unfold cMs
  split
  · exact l_fit _ _ _
  · intro v hv
    simp at hv
    subst hv
    exact small_fit _ (by decide) (by decide)
theorem cDs_fit (x : RS) : ∀ v ∈ cDs x, I64 v := by
  unfold cDs
  split
  · exact l_fit _ _ _
  · intro v hv
    simp at hv
    subst hv
    exact small_fit _ (by decide) (by decide)
end Go.Proofs.Ytfaipbdkkkhacaa
/- Layer 7: what was taken, at the end. -/
namespace Go.Proofs.Ytfaipbdkkkhacaa
open Go.RowKit
set_option linter.unusedVariables false

theorem size25e : (Try.prog.info? 25).map (·.size) = some 4 := by kernel_rfl
theorem zero25e (w : World) : (zeroValue 25).run Try.prog w = .ok (.agg (iA [0, 0, 0, 0])) w := Try.zeroValue25 w
theorem sets4 (v0 v1 v2 v3 : Int) : (((((iA [0, 0, 0, 0]).setIfInBounds 0 (.int .i64 v0)).setIfInBounds 1 (.int .i64 v1)).setIfInBounds 2 (.int .i64 v2)).setIfInBounds 3 (.int .i64 v3)) = iA [v0, v1, v2, v3] := by kernel_rfl
set_option maxHeartbeats 1000000 in
theorem endrect_err (xs : ByteArray) (xa xe v0 v1 v2 v3 : Int) (q : Bool) (w : World) (bt : Nat) (he : (xe == 0) = false) (he2 : (xe != 0) = true) (Bt : Blk w bt #[.string xs, .int .i64 xa, .int .i64 xe] 115) :
    Calls Try.prog 49 #[.pointer (some ⟨bt, 0, none⟩), .agg (iA [v0, v1, v2, v3]), .bool q] w fun e w' => e = .returned (.tuple #[.agg (iA [0, 0, 0, 0]), .agg #[.string ⟨#[]⟩, .int .i64 0], .int .i64 xe]) ∧ Below w.heap.size w w' := by
  go_enter Try.func49, Try.ntmps49
  go_wp2_with (first
    | (refine wl_box 25 _ _ rfl rfl (show _ = Value.agg (iA [v0, v1, v2, v3]) from rfl) ?_; intro W1 bv Bv_1 l1 k1; have gv : w.heap.size ≤ bv := l1; have ntv : bt ≠ bv := Nat.ne_of_lt (Nat.lt_of_lt_of_le Bt.lt l1); have Bt_1 := Bt.keep k1; have Hw1 := k1; clear l1 k1 Bt)
    | (refine wl_alloc 25 _ zero25e rfl rfl ?_; intro W2 br Br_2 l2 k2; have gr : w.heap.size ≤ br := Nat.le_trans Hw1.size l2; have ntr : bt ≠ br := Nat.ne_of_lt (Nat.lt_of_lt_of_le Bt_1.lt l2); have nvr : bv ≠ br := Nat.ne_of_lt (Nat.lt_of_lt_of_le Bv_1.lt l2); have Bt_2 := Bt_1.keep k2; have Bv_2 := Bv_1.keep k2; have Hw2 := bq_trans Hw1 k2; clear l2 k2 Bt_1 Bv_1 Hw1)
    | (refine wl_alloc 51 _ zero51 rfl rfl ?_; intro W3 bo Bo_3 l3 k3; have go : w.heap.size ≤ bo := Nat.le_trans Hw2.size l3; have nto : bt ≠ bo := Nat.ne_of_lt (Nat.lt_of_lt_of_le Bt_2.lt l3); have nvo : bv ≠ bo := Nat.ne_of_lt (Nat.lt_of_lt_of_le Bv_2.lt l3); have nro : br ≠ bo := Nat.ne_of_lt (Nat.lt_of_lt_of_le Br_2.lt l3); have Bt_3 := Bt_2.keep k3; have Bv_3 := Bv_2.keep k3; have Br_3 := Br_2.keep k3; have Hw3 := bq_trans Hw2 k3; clear l3 k3 Bt_2 Bv_2 Br_2 Hw2; have ct_2_3 : W3.cell? ⟨bt, 2, none⟩ = some (.int .i64 xe) := Bt_3.cell 2)
    | (refine wl_alloc 25 _ zero25e rfl rfl ?_; intro W4 bn Bn_4 l4 k4; have gn : w.heap.size ≤ bn := Nat.le_trans Hw3.size l4; have ntn : bt ≠ bn := Nat.ne_of_lt (Nat.lt_of_lt_of_le Bt_3.lt l4); have nvn : bv ≠ bn := Nat.ne_of_lt (Nat.lt_of_lt_of_le Bv_3.lt l4); have nrn : br ≠ bn := Nat.ne_of_lt (Nat.lt_of_lt_of_le Br_3.lt l4); have non : bo ≠ bn := Nat.ne_of_lt (Nat.lt_of_lt_of_le Bo_3.lt l4); have Bt_4 := Bt_3.keep k4; have Bv_4 := Bv_3.keep k4; have Br_4 := Br_3.keep k4; have Bo_4 := Bo_3.keep k4; have Hw4 := bq_trans Hw3 k4; clear l4 k4 Bt_3 Bv_3 Br_3 Bo_3 ct_2_3 Hw3)
    | (refine wl_load 25 4 _ Try.underlying25 rfl size25e _ rfl rfl _ rfl _ _ Bn_4 rfl ?_)
    | (refine wl_store 25 4 size25e _ _ rfl rfl _ rfl _ rfl _ _ Br_4 rfl rfl (by kernel_rfl) ?_; intro W5 Br_5 T5; have Bt_5 := T5.blk Bt_4 ntr; have Bv_5 := T5.blk Bv_4 nvr; have Bo_5 := T5.blk Bo_4 (Ne.symm nro); have Bn_5 := T5.blk Bn_4 (Ne.symm nrn); have Hw5 := T5.below Hw4 gr; clear T5 Bt_4 Bv_4 Bo_4 Bn_4 Br_4 Hw4)
    | (refine wl_store 51 2 size51 _ _ rfl rfl _ rfl #[.string ⟨#[]⟩, .int .i64 0] rfl _ _ Bo_5 rfl rfl (by kernel_rfl) ?_; intro W6 Bo_6 T6; have Bt_6 := T6.blk Bt_5 nto; have Bv_6 := T6.blk Bv_5 nvo; have Br_6 := T6.blk Br_5 nro; have Bn_6 := T6.blk Bn_5 (Ne.symm non); have Hw6 := T6.below Hw5 go; clear T6 Bt_5 Bv_5 Br_5 Bn_5 Bo_5 Hw5))
  exact post_cell2_tmp (v := .int .i64 xe) Try.underlying25 rfl size25e Try.underlying51 rfl size51 Try.results49 Br_6 rfl Bo_6 rfl rfl rfl rfl rfl ⟨rfl, Hw6⟩
set_option maxHeartbeats 1000000 in
theorem endrect_not (xs : ByteArray) (xa v0 v1 v2 v3 : Int)  (w : World) (bt : Nat)  (Bt : Blk w bt #[.string xs, .int .i64 xa, .int .i64 0] 115) :
    Calls Try.prog 49 #[.pointer (some ⟨bt, 0, none⟩), .agg (iA [v0, v1, v2, v3]), .bool false] w fun e w' => e = .returned (.tuple #[.agg (iA [0, 0, 0, 0]), .agg #[.string ⟨#[]⟩, .int .i64 0], .int .i64 3]) ∧ Below w.heap.size w w' := by
  go_enter Try.func49, Try.ntmps49
  go_wp2_with (first
    | (refine wl_box 25 _ _ rfl rfl (show _ = Value.agg (iA [v0, v1, v2, v3]) from rfl) ?_; intro W1 bv Bv_1 l1 k1; have gv : w.heap.size ≤ bv := l1; have ntv : bt ≠ bv := Nat.ne_of_lt (Nat.lt_of_lt_of_le Bt.lt l1); have Bt_1 := Bt.keep k1; have Hw1 := k1; clear l1 k1 Bt)
    | (refine wl_alloc 25 _ zero25e rfl rfl ?_; intro W2 br Br_2 l2 k2; have gr : w.heap.size ≤ br := Nat.le_trans Hw1.size l2; have ntr : bt ≠ br := Nat.ne_of_lt (Nat.lt_of_lt_of_le Bt_1.lt l2); have nvr : bv ≠ br := Nat.ne_of_lt (Nat.lt_of_lt_of_le Bv_1.lt l2); have Bt_2 := Bt_1.keep k2; have Bv_2 := Bv_1.keep k2; have Hw2 := bq_trans Hw1 k2; clear l2 k2 Bt_1 Bv_1 Hw1)
    | (refine wl_alloc 51 _ zero51 rfl rfl ?_; intro W3 bo Bo_3 l3 k3; have go : w.heap.size ≤ bo := Nat.le_trans Hw2.size l3; have nto : bt ≠ bo := Nat.ne_of_lt (Nat.lt_of_lt_of_le Bt_2.lt l3); have nvo : bv ≠ bo := Nat.ne_of_lt (Nat.lt_of_lt_of_le Bv_2.lt l3); have nro : br ≠ bo := Nat.ne_of_lt (Nat.lt_of_lt_of_le Br_2.lt l3); have Bt_3 := Bt_2.keep k3; have Bv_3 := Bv_2.keep k3; have Br_3 := Br_2.keep k3; have Hw3 := bq_trans Hw2 k3; clear l3 k3 Bt_2 Bv_2 Br_2 Hw2; have ct_2_3 : W3.cell? ⟨bt, 2, none⟩ = some (.int .i64 0) := Bt_3.cell 2)
    | (refine wl_alloc 25 _ zero25e rfl rfl ?_; intro W4 bn Bn_4 l4 k4; have gn : w.heap.size ≤ bn := Nat.le_trans Hw3.size l4; have ntn : bt ≠ bn := Nat.ne_of_lt (Nat.lt_of_lt_of_le Bt_3.lt l4); have nvn : bv ≠ bn := Nat.ne_of_lt (Nat.lt_of_lt_of_le Bv_3.lt l4); have nrn : br ≠ bn := Nat.ne_of_lt (Nat.lt_of_lt_of_le Br_3.lt l4); have non : bo ≠ bn := Nat.ne_of_lt (Nat.lt_of_lt_of_le Bo_3.lt l4); have Bt_4 := Bt_3.keep k4; have Bv_4 := Bv_3.keep k4; have Br_4 := Br_3.keep k4; have Bo_4 := Bo_3.keep k4; have Hw4 := bq_trans Hw3 k4; clear l4 k4 Bt_3 Bv_3 Br_3 Bo_3 ct_2_3 Hw3)
    | (refine wl_load 25 4 _ Try.underlying25 rfl size25e _ rfl rfl _ rfl _ _ Bn_4 rfl ?_)
    | (refine wl_store 25 4 size25e _ _ rfl rfl _ rfl _ rfl _ _ Br_4 rfl rfl (by kernel_rfl) ?_; intro W5 Br_5 T5; have Bt_5 := T5.blk Bt_4 ntr; have Bv_5 := T5.blk Bv_4 nvr; have Bo_5 := T5.blk Bo_4 (Ne.symm nro); have Bn_5 := T5.blk Bn_4 (Ne.symm nrn); have Hw5 := T5.below Hw4 gr; clear T5 Bt_4 Bv_4 Bo_4 Bn_4 Br_4 Hw4)
    | (refine wl_store 51 2 size51 _ _ rfl rfl _ rfl #[.string ⟨#[]⟩, .int .i64 0] rfl _ _ Bo_5 rfl rfl (by kernel_rfl) ?_; intro W6 Bo_6 T6; have Bt_6 := T6.blk Bt_5 nto; have Bv_6 := T6.blk Bv_5 nvo; have Br_6 := T6.blk Br_5 nro; have Bn_6 := T6.blk Bn_5 (Ne.symm non); have Hw6 := T6.below Hw5 go; clear T6 Bt_5 Bv_5 Br_5 Bn_5 Bo_5 Hw5))
  exact post_cell2_tmp (v := .int .i64 3) Try.underlying25 rfl size25e Try.underlying51 rfl size51 Try.results49 Br_6 rfl Bo_6 rfl rfl rfl rfl rfl ⟨rfl, Hw6⟩
set_option maxHeartbeats 2000000 in
theorem endrect_ok (xs : ByteArray) (xa ya v0 v1 v2 v3 : Int) (w : World) (bt : Nat) (hs : xs.size ≤ 1000000) (hya : alA xs.size xa = ya) (Bt : Blk w bt #[.string xs, .int .i64 xa, .int .i64 0] 115) :
    Calls Try.prog 49 #[.pointer (some ⟨bt, 0, none⟩), .agg (iA [v0, v1, v2, v3]), .bool true] w fun e w' => e = .returned (.tuple #[.agg (iA [v0, v1, v2, v3]), .agg #[.string xs, .int .i64 ya], .int .i64 0]) ∧ Below w.heap.size w w' := by
  have HA : Hid (∀ W0 W, Below W0.heap.size W0 W → Calls Try.prog 66 #[.agg #[.string xs, .int .i64 xa]] W fun e w' => e = .returned (.agg #[.string xs, .int .i64 ya]) ∧ Below W0.heap.size W0 w') := Lib.hid fun W0 W hW => by
    rw [← hya]
    exact (align_any xs xa W (by omega)).mono fun e w' ⟨h1, h2⟩ => ⟨h1, bq_trans hW h2⟩
  clear hya hs
  go_enter Try.func49, Try.ntmps49
  go_wp2_with (first
    | (refine wl_box 25 _ _ rfl rfl (show _ = Value.agg (iA [v0, v1, v2, v3]) from rfl) ?_; intro W1 bv Bv_1 l1 k1; have gv : w.heap.size ≤ bv := l1; have ntv : bt ≠ bv := Nat.ne_of_lt (Nat.lt_of_lt_of_le Bt.lt l1); have Bt_1 := Bt.keep k1; have Hw1 := k1; clear l1 k1 Bt)
    | (refine wl_alloc 25 _ zero25e rfl rfl ?_; intro W2 br Br_2 l2 k2; have gr : w.heap.size ≤ br := Nat.le_trans Hw1.size l2; have ntr : bt ≠ br := Nat.ne_of_lt (Nat.lt_of_lt_of_le Bt_1.lt l2); have nvr : bv ≠ br := Nat.ne_of_lt (Nat.lt_of_lt_of_le Bv_1.lt l2); have Bt_2 := Bt_1.keep k2; have Bv_2 := Bv_1.keep k2; have Hw2 := bq_trans Hw1 k2; clear l2 k2 Bt_1 Bv_1 Hw1)
    | (refine wl_alloc 51 _ zero51 rfl rfl ?_; intro W3 bo Bo_3 l3 k3; have go : w.heap.size ≤ bo := Nat.le_trans Hw2.size l3; have nto : bt ≠ bo := Nat.ne_of_lt (Nat.lt_of_lt_of_le Bt_2.lt l3); have nvo : bv ≠ bo := Nat.ne_of_lt (Nat.lt_of_lt_of_le Bv_2.lt l3); have nro : br ≠ bo := Nat.ne_of_lt (Nat.lt_of_lt_of_le Br_2.lt l3); have Bt_3 := Bt_2.keep k3; have Bv_3 := Bv_2.keep k3; have Br_3 := Br_2.keep k3; have Hw3 := bq_trans Hw2 k3; clear l3 k3 Bt_2 Bv_2 Br_2 Hw2; have ct_2_3 : W3.cell? ⟨bt, 2, none⟩ = some (.int .i64 0) := Bt_3.cell 2))
  have BR := Lib.hid Br_3
  have BO := Lib.hid Bo_3
  have HB := Lib.hid Hw3
  have nor := Ne.symm nro
  have ne1 : ¬ br = bo := nro
  have ne2 : ¬ bo = br := nor
  have HC : Hid (∀ w', But br bo W3 w' → w'.cell? ⟨bt, 0, none⟩ = some (.string xs) ∧ w'.cell? ⟨bt, 1, none⟩ = some (.int .i64 xa) ∧ w'.cell? ⟨bv, 0, none⟩ = some (.int .i64 v0) ∧ w'.cell? ⟨bv, 1, none⟩ = some (.int .i64 v1) ∧ w'.cell? ⟨bv, 2, none⟩ = some (.int .i64 v2) ∧ w'.cell? ⟨bv, 3, none⟩ = some (.int .i64 v3)) := Lib.hid fun w' hw' => ⟨(Bt_3.but hw' ntr nto).cell 0, (Bt_3.but hw' ntr nto).cell 1, (Bv_3.but hw' nvr nvo).cell 0, (Bv_3.but hw' nvr nvo).cell 1, (Bv_3.but hw' nvr nvo).cell 2, (Bv_3.but hw' nvr nvo).cell 3⟩
  have hd0 : Below W3.heap.size W3 W3.drew := bq_drew (bq_refl W3)
  clear Bt_3 Bv_3 Br_3 Bo_3 Hw3 ct_2_3
  go_region_held3 (fun w' => w'.cell? ⟨bt, 0, none⟩ = some (.string xs) ∧ w'.cell? ⟨bt, 1, none⟩ = some (.int .i64 xa) ∧ w'.cell? ⟨bv, 0, none⟩ = some (.int .i64 v0) ∧ w'.cell? ⟨bv, 1, none⟩ = some (.int .i64 v1) ∧ w'.cell? ⟨bv, 2, none⟩ = some (.int .i64 v2) ∧ w'.cell? ⟨bv, 3, none⟩ = some (.int .i64 v3))
    ((refine HC.out _ ?_; repeat' (first | (with_reducible refine But.setp _ _ ?_) | (with_reducible refine But.setq _ _ ?_) | (with_reducible exact But.of (by assumption)) | (with_reducible exact But.of (bq_drew (bq_refl _))))))
    (first
      | (go_at_call 66; refine (HA.out W3 _ (by first | assumption | exact bq_refl _)).mono ?_; rintro e w10 ⟨rfl, hb10⟩; have d0 : w10.cell? ⟨br, 0, none⟩ = some (.int .i64 0) := (BR.out.keep hb10).cell 0; have f0 := (BR.out.keep hb10).frozen 0; have d1 : w10.cell? ⟨br, 1, none⟩ = some (.int .i64 0) := (BR.out.keep hb10).cell 1; have f1 := (BR.out.keep hb10).frozen 1; have d2 : w10.cell? ⟨br, 2, none⟩ = some (.int .i64 0) := (BR.out.keep hb10).cell 2; have f2 := (BR.out.keep hb10).frozen 2; have d3 : w10.cell? ⟨br, 3, none⟩ = some (.int .i64 0) := (BR.out.keep hb10).cell 3; have f3 := (BR.out.keep hb10).frozen 3; have p0 := (BO.out.keep hb10).cell 0; have p1 := (BO.out.keep hb10).cell 1; have q0 := (BO.out.keep hb10).frozen 0; have q1 := (BO.out.keep hb10).frozen 1))
  have R9 : Blk ((((((w10.setCell ⟨br, 0, none⟩ (.int .i64 v0)).setCell ⟨br, 1, none⟩ (.int .i64 v1)).setCell ⟨br, 2, none⟩ (.int .i64 v2)).setCell ⟨br, 3, none⟩ (.int .i64 v3)).setCell ⟨bo, 0, none⟩ (.string xs)).setCell ⟨bo, 1, none⟩ (.int .i64 ya)) br (iA [v0, v1, v2, v3]) 25 := by rw [← sets4]; exact (((((((BR.out.keep hb10).set 0 _).set 1 _).set 2 _).set 3 _).other _ nro).other _ nro)
  have O9 : Blk ((((((w10.setCell ⟨br, 0, none⟩ (.int .i64 v0)).setCell ⟨br, 1, none⟩ (.int .i64 v1)).setCell ⟨br, 2, none⟩ (.int .i64 v2)).setCell ⟨br, 3, none⟩ (.int .i64 v3)).setCell ⟨bo, 0, none⟩ (.string xs)).setCell ⟨bo, 1, none⟩ (.int .i64 ya)) bo #[.string xs, .int .i64 ya] 51 := (((((((BO.out.keep hb10).other _ nor).other _ nor).other _ nor).other _ nor).set 0 _).set 1 _)
  go_wp2
  exact post_cell2_tmp (v := .int .i64 0) Try.underlying25 rfl size25e Try.underlying51 rfl size51 Try.results49 R9 rfl O9 rfl rfl rfl rfl rfl ⟨rfl, bq_set (bq_set (bq_set (bq_set (bq_set (bq_set (bq_trans HB.out hb10) _ gr _) _ gr _) _ gr _) _ gr _) _ go _) _ go _⟩
theorem endrect_any (x : RS) (v0 v1 v2 v3 : Int) (q : Bool) (w : World) (bt : Nat) (hs : x.s.size ≤ 1000000) (hx : Tk w bt x) :
    Calls Try.prog 49 #[.pointer (some ⟨bt, 0, none⟩), .agg (iA [v0, v1, v2, v3]), .bool q] w fun e w' => e = .returned (.tuple #[.agg (iA (if (x.fin q).e = 0 then [v0, v1, v2, v3] else [0, 0, 0, 0])), .agg #[.string (x.fin q).s, .int .i64 (x.fin q).a], .int .i64 (x.fin q).e]) ∧ Below w.heap.size w w' := by
  by_cases he : x.e = 0
  · have hx' : Blk w bt #[.string x.s, .int .i64 x.a, .int .i64 0] 115 := by
      have := hx
      unfold Tk RS.cells at this
      rw [he] at this
      exact this
    cases q
    · have ef : x.fin false = ⟨⟨#[]⟩, 0, 3⟩ := by unfold RS.fin; rw [if_pos he]; rfl
      rw [ef, if_neg (by decide)]
      exact endrect_not x.s x.a v0 v1 v2 v3 w bt hx'
    · have ef : x.fin true = ⟨x.s, alA x.s.size x.a, 0⟩ := by unfold RS.fin; rw [if_pos he]; rfl
      rw [ef, if_pos rfl]
      exact endrect_ok x.s x.a _ v0 v1 v2 v3 w bt hs rfl hx'
  · have ef : x.fin q = ⟨⟨#[]⟩, 0, x.e⟩ := by unfold RS.fin; rw [if_neg he]
    rw [ef, if_neg he]
    exact endrect_err x.s x.a x.e v0 v1 v2 v3 q w bt (by rw [beq_eq_false_iff_ne]; exact he) (by rw [bne_iff_ne]; exact he) hx
theorem size27e : (Try.prog.info? 27).map (·.size) = some 6 := by kernel_rfl
theorem zero27e (w : World) : (zeroValue 27).run Try.prog w = .ok (.agg (iA [0, 0, 0, 0, 0, 0])) w := Try.zeroValue27 w
theorem sets6 (v0 v1 v2 v3 v4 v5 : Int) : (((((((iA [0, 0, 0, 0, 0, 0]).setIfInBounds 0 (.int .i64 v0)).setIfInBounds 1 (.int .i64 v1)).setIfInBounds 2 (.int .i64 v2)).setIfInBounds 3 (.int .i64 v3)).setIfInBounds 4 (.int .i64 v4)).setIfInBounds 5 (.int .i64 v5)) = iA [v0, v1, v2, v3, v4, v5] := by kernel_rfl
set_option maxHeartbeats 1000000 in
theorem endmatrix_err (xs : ByteArray) (xa xe v0 v1 v2 v3 v4 v5 : Int) (q : Bool) (w : World) (bt : Nat) (he : (xe == 0) = false) (he2 : (xe != 0) = true) (Bt : Blk w bt #[.string xs, .int .i64 xa, .int .i64 xe] 115) :
    Calls Try.prog 52 #[.pointer (some ⟨bt, 0, none⟩), .agg (iA [v0, v1, v2, v3, v4, v5]), .bool q] w fun e w' => e = .returned (.tuple #[.agg (iA [0, 0, 0, 0, 0, 0]), .agg #[.string ⟨#[]⟩, .int .i64 0], .int .i64 xe]) ∧ Below w.heap.size w w' := by
  go_enter Try.func52, Try.ntmps52
  go_wp2_with (first
    | (refine wl_box 27 _ _ rfl rfl (show _ = Value.agg (iA [v0, v1, v2, v3, v4, v5]) from rfl) ?_; intro W1 bv Bv_1 l1 k1; have gv : w.heap.size ≤ bv := l1; have ntv : bt ≠ bv := Nat.ne_of_lt (Nat.lt_of_lt_of_le Bt.lt l1); have Bt_1 := Bt.keep k1; have Hw1 := k1; clear l1 k1 Bt)
    | (refine wl_alloc 27 _ zero27e rfl rfl ?_; intro W2 br Br_2 l2 k2; have gr : w.heap.size ≤ br := Nat.le_trans Hw1.size l2; have ntr : bt ≠ br := Nat.ne_of_lt (Nat.lt_of_lt_of_le Bt_1.lt l2); have nvr : bv ≠ br := Nat.ne_of_lt (Nat.lt_of_lt_of_le Bv_1.lt l2); have Bt_2 := Bt_1.keep k2; have Bv_2 := Bv_1.keep k2; have Hw2 := bq_trans Hw1 k2; clear l2 k2 Bt_1 Bv_1 Hw1)
    | (refine wl_alloc 51 _ zero51 rfl rfl ?_; intro W3 bo Bo_3 l3 k3; have go : w.heap.size ≤ bo := Nat.le_trans Hw2.size l3; have nto : bt ≠ bo := Nat.ne_of_lt (Nat.lt_of_lt_of_le Bt_2.lt l3); have nvo : bv ≠ bo := Nat.ne_of_lt (Nat.lt_of_lt_of_le Bv_2.lt l3); have nro : br ≠ bo := Nat.ne_of_lt (Nat.lt_of_lt_of_le Br_2.lt l3); have Bt_3 := Bt_2.keep k3; have Bv_3 := Bv_2.keep k3; have Br_3 := Br_2.keep k3; have Hw3 := bq_trans Hw2 k3; clear l3 k3 Bt_2 Bv_2 Br_2 Hw2; have ct_2_3 : W3.cell? ⟨bt, 2, none⟩ = some (.int .i64 xe) := Bt_3.cell 2)
    | (refine wl_alloc 27 _ zero27e rfl rfl ?_; intro W4 bn Bn_4 l4 k4; have gn : w.heap.size ≤ bn := Nat.le_trans Hw3.size l4; have ntn : bt ≠ bn := Nat.ne_of_lt (Nat.lt_of_lt_of_le Bt_3.lt l4); have nvn : bv ≠ bn := Nat.ne_of_lt (Nat.lt_of_lt_of_le Bv_3.lt l4); have nrn : br ≠ bn := Nat.ne_of_lt (Nat.lt_of_lt_of_le Br_3.lt l4); have non : bo ≠ bn := Nat.ne_of_lt (Nat.lt_of_lt_of_le Bo_3.lt l4); have Bt_4 := Bt_3.keep k4; have Bv_4 := Bv_3.keep k4; have Br_4 := Br_3.keep k4; have Bo_4 := Bo_3.keep k4; have Hw4 := bq_trans Hw3 k4; clear l4 k4 Bt_3 Bv_3 Br_3 Bo_3 ct_2_3 Hw3)
    | (refine wl_load 27 6 _ Try.underlying27 rfl size27e _ rfl rfl _ rfl _ _ Bn_4 rfl ?_)
    | (refine wl_store 27 6 size27e _ _ rfl rfl _ rfl _ rfl _ _ Br_4 rfl rfl (by kernel_rfl) ?_; intro W5 Br_5 T5; have Bt_5 := T5.blk Bt_4 ntr; have Bv_5 := T5.blk Bv_4 nvr; have Bo_5 := T5.blk Bo_4 (Ne.symm nro); have Bn_5 := T5.blk Bn_4 (Ne.symm nrn); have Hw5 := T5.below Hw4 gr; clear T5 Bt_4 Bv_4 Bo_4 Bn_4 Br_4 Hw4)
    | (refine wl_store 51 2 size51 _ _ rfl rfl _ rfl #[.string ⟨#[]⟩, .int .i64 0] rfl _ _ Bo_5 rfl rfl (by kernel_rfl) ?_; intro W6 Bo_6 T6; have Bt_6 := T6.blk Bt_5 nto; have Bv_6 := T6.blk Bv_5 nvo; have Br_6 := T6.blk Br_5 nro; have Bn_6 := T6.blk Bn_5 (Ne.symm non); have Hw6 := T6.below Hw5 go; clear T6 Bt_5 Bv_5 Br_5 Bn_5 Bo_5 Hw5))
  exact post_cell2_tmp (v := .int .i64 xe) Try.underlying27 rfl size27e Try.underlying51 rfl size51 Try.results52 Br_6 rfl Bo_6 rfl rfl rfl rfl rfl ⟨rfl, Hw6⟩
set_option maxHeartbeats 1000000 in
theorem endmatrix_not (xs : ByteArray) (xa v0 v1 v2 v3 v4 v5 : Int)  (w : World) (bt : Nat)  (Bt : Blk w bt #[.string xs, .int .i64 xa, .int .i64 0] 115) :
    Calls Try.prog 52 #[.pointer (some ⟨bt, 0, none⟩), .agg (iA [v0, v1, v2, v3, v4, v5]), .bool false] w fun e w' => e = .returned (.tuple #[.agg (iA [0, 0, 0, 0, 0, 0]), .agg #[.string ⟨#[]⟩, .int .i64 0], .int .i64 3]) ∧ Below w.heap.size w w' := by
  go_enter Try.func52, Try.ntmps52
  go_wp2_with (first
    | (refine wl_box 27 _ _ rfl rfl (show _ = Value.agg (iA [v0, v1, v2, v3, v4, v5]) from rfl) ?_; intro W1 bv Bv_1 l1 k1; have gv : w.heap.size ≤ bv := l1; have ntv : bt ≠ bv := Nat.ne_of_lt (Nat.lt_of_lt_of_le Bt.lt l1); have Bt_1 := Bt.keep k1; have Hw1 := k1; clear l1 k1 Bt)
    | (refine wl_alloc 27 _ zero27e rfl rfl ?_; intro W2 br Br_2 l2 k2; have gr : w.heap.size ≤ br := Nat.le_trans Hw1.size l2; have ntr : bt ≠ br := Nat.ne_of_lt (Nat.lt_of_lt_of_le Bt_1.lt l2); have nvr : bv ≠ br := Nat.ne_of_lt (Nat.lt_of_lt_of_le Bv_1.lt l2); have Bt_2 := Bt_1.keep k2; have Bv_2 := Bv_1.keep k2; have Hw2 := bq_trans Hw1 k2; clear l2 k2 Bt_1 Bv_1 Hw1)
    | (refine wl_alloc 51 _ zero51 rfl rfl ?_; intro W3 bo Bo_3 l3 k3; have go : w.heap.size ≤ bo := Nat.le_trans Hw2.size l3; have nto : bt ≠ bo := Nat.ne_of_lt (Nat.lt_of_lt_of_le Bt_2.lt l3); have nvo : bv ≠ bo := Nat.ne_of_lt (Nat.lt_of_lt_of_le Bv_2.lt l3); have nro : br ≠ bo := Nat.ne_of_lt (Nat.lt_of_lt_of_le Br_2.lt l3); have Bt_3 := Bt_2.keep k3; have Bv_3 := Bv_2.keep k3; have Br_3 := Br_2.keep k3; have Hw3 := bq_trans Hw2 k3; clear l3 k3 Bt_2 Bv_2 Br_2 Hw2; have ct_2_3 : W3.cell? ⟨bt, 2, none⟩ = some (.int .i64 0) := Bt_3.cell 2)
    | (refine wl_alloc 27 _ zero27e rfl rfl ?_; intro W4 bn Bn_4 l4 k4; have gn : w.heap.size ≤ bn := Nat.le_trans Hw3.size l4; have ntn : bt ≠ bn := Nat.ne_of_lt (Nat.lt_of_lt_of_le Bt_3.lt l4); have nvn : bv ≠ bn := Nat.ne_of_lt (Nat.lt_of_lt_of_le Bv_3.lt l4); have nrn : br ≠ bn := Nat.ne_of_lt (Nat.lt_of_lt_of_le Br_3.lt l4); have non : bo ≠ bn := Nat.ne_of_lt (Nat.lt_of_lt_of_le Bo_3.lt l4); have Bt_4 := Bt_3.keep k4; have Bv_4 := Bv_3.keep k4; have Br_4 := Br_3.keep k4; have Bo_4 := Bo_3.keep k4; have Hw4 := bq_trans Hw3 k4; clear l4 k4 Bt_3 Bv_3 Br_3 Bo_3 ct_2_3 Hw3)
    | (refine wl_load 27 6 _ Try.underlying27 rfl size27e _ rfl rfl _ rfl _ _ Bn_4 rfl ?_)
    | (refine wl_store 27 6 size27e _ _ rfl rfl _ rfl _ rfl _ _ Br_4 rfl rfl (by kernel_rfl) ?_; intro W5 Br_5 T5; have Bt_5 := T5.blk Bt_4 ntr; have Bv_5 := T5.blk Bv_4 nvr; have Bo_5 := T5.blk Bo_4 (Ne.symm nro); have Bn_5 := T5.blk Bn_4 (Ne.symm nrn); have Hw5 := T5.below Hw4 gr; clear T5 Bt_4 Bv_4 Bo_4 Bn_4 Br_4 Hw4)
    | (refine wl_store 51 2 size51 _ _ rfl rfl _ rfl #[.string ⟨#[]⟩, .int .i64 0] rfl _ _ Bo_5 rfl rfl (by kernel_rfl) ?_; intro W6 Bo_6 T6; have Bt_6 := T6.blk Bt_5 nto; have Bv_6 := T6.blk Bv_5 nvo; have Br_6 := T6.blk Br_5 nro; have Bn_6 := T6.blk Bn_5 (Ne.symm non); have Hw6 := T6.below Hw5 go; clear T6 Bt_5 Bv_5 Br_5 Bn_5 Bo_5 Hw5))
  exact post_cell2_tmp (v := .int .i64 3) Try.underlying27 rfl size27e Try.underlying51 rfl size51 Try.results52 Br_6 rfl Bo_6 rfl rfl rfl rfl rfl ⟨rfl, Hw6⟩
set_option maxHeartbeats 2000000 in
theorem endmatrix_ok (xs : ByteArray) (xa ya v0 v1 v2 v3 v4 v5 : Int) (w : World) (bt : Nat) (hs : xs.size ≤ 1000000) (hya : alA xs.size xa = ya) (Bt : Blk w bt #[.string xs, .int .i64 xa, .int .i64 0] 115) :
    Calls Try.prog 52 #[.pointer (some ⟨bt, 0, none⟩), .agg (iA [v0, v1, v2, v3, v4, v5]), .bool true] w fun e w' => e = .returned (.tuple #[.agg (iA [v0, v1, v2, v3, v4, v5]), .agg #[.string xs, .int .i64 ya], .int .i64 0]) ∧ Below w.heap.size w w' := by
  have HA : Hid (∀ W0 W, Below W0.heap.size W0 W → Calls Try.prog 66 #[.agg #[.string xs, .int .i64 xa]] W fun e w' => e = .returned (.agg #[.string xs, .int .i64 ya]) ∧ Below W0.heap.size W0 w') := Lib.hid fun W0 W hW => by
    rw [← hya]
    exact (align_any xs xa W (by omega)).mono fun e w' ⟨h1, h2⟩ => ⟨h1, bq_trans hW h2⟩
  clear hya hs
  go_enter Try.func52, Try.ntmps52
  go_wp2_with (first
    | (refine wl_box 27 _ _ rfl rfl (show _ = Value.agg (iA [v0, v1, v2, v3, v4, v5]) from rfl) ?_; intro W1 bv Bv_1 l1 k1; have gv : w.heap.size ≤ bv := l1; have ntv : bt ≠ bv := Nat.ne_of_lt (Nat.lt_of_lt_of_le Bt.lt l1); have Bt_1 := Bt.keep k1; have Hw1 := k1; clear l1 k1 Bt)
    | (refine wl_alloc 27 _ zero27e rfl rfl ?_; intro W2 br Br_2 l2 k2; have gr : w.heap.size ≤ br := Nat.le_trans Hw1.size l2; have ntr : bt ≠ br := Nat.ne_of_lt (Nat.lt_of_lt_of_le Bt_1.lt l2); have nvr : bv ≠ br := Nat.ne_of_lt (Nat.lt_of_lt_of_le Bv_1.lt l2); have Bt_2 := Bt_1.keep k2; have Bv_2 := Bv_1.keep k2; have Hw2 := bq_trans Hw1 k2; clear l2 k2 Bt_1 Bv_1 Hw1)
    | (refine wl_alloc 51 _ zero51 rfl rfl ?_; intro W3 bo Bo_3 l3 k3; have go : w.heap.size ≤ bo := Nat.le_trans Hw2.size l3; have nto : bt ≠ bo := Nat.ne_of_lt (Nat.lt_of_lt_of_le Bt_2.lt l3); have nvo : bv ≠ bo := Nat.ne_of_lt (Nat.lt_of_lt_of_le Bv_2.lt l3); have nro : br ≠ bo := Nat.ne_of_lt (Nat.lt_of_lt_of_le Br_2.lt l3); have Bt_3 := Bt_2.keep k3; have Bv_3 := Bv_2.keep k3; have Br_3 := Br_2.keep k3; have Hw3 := bq_trans Hw2 k3; clear l3 k3 Bt_2 Bv_2 Br_2 Hw2; have ct_2_3 : W3.cell? ⟨bt, 2, none⟩ = some (.int .i64 0) := Bt_3.cell 2))
  have BR := Lib.hid Br_3
  have BO := Lib.hid Bo_3
  have HB := Lib.hid Hw3
  have nor := Ne.symm nro
  have ne1 : ¬ br = bo := nro
  have ne2 : ¬ bo = br := nor
  have HC : Hid (∀ w', But br bo W3 w' → w'.cell? ⟨bt, 0, none⟩ = some (.string xs) ∧ w'.cell? ⟨bt, 1, none⟩ = some (.int .i64 xa) ∧ w'.cell? ⟨bv, 0, none⟩ = some (.int .i64 v0) ∧ w'.cell? ⟨bv, 1, none⟩ = some (.int .i64 v1) ∧ w'.cell? ⟨bv, 2, none⟩ = some (.int .i64 v2) ∧ w'.cell? ⟨bv, 3, none⟩ = some (.int .i64 v3) ∧ w'.cell? ⟨bv, 4, none⟩ = some (.int .i64 v4) ∧ w'.cell? ⟨bv, 5, none⟩ = some (.int .i64 v5)) := Lib.hid fun w' hw' => ⟨(Bt_3.but hw' ntr nto).cell 0, (Bt_3.but hw' ntr nto).cell 1, (Bv_3.but hw' nvr nvo).cell 0, (Bv_3.but hw' nvr nvo).cell 1, (Bv_3.but hw' nvr nvo).cell 2, (Bv_3.but hw' nvr nvo).cell 3, (Bv_3.but hw' nvr nvo).cell 4, (Bv_3.but hw' nvr nvo).cell 5⟩
  have hd0 : Below W3.heap.size W3 W3.drew := bq_drew (bq_refl W3)
  clear Bt_3 Bv_3 Br_3 Bo_3 Hw3 ct_2_3
  go_region_held3 (fun w' => w'.cell? ⟨bt, 0, none⟩ = some (.string xs) ∧ w'.cell? ⟨bt, 1, none⟩ = some (.int .i64 xa) ∧ w'.cell? ⟨bv, 0, none⟩ = some (.int .i64 v0) ∧ w'.cell? ⟨bv, 1, none⟩ = some (.int .i64 v1) ∧ w'.cell? ⟨bv, 2, none⟩ = some (.int .i64 v2) ∧ w'.cell? ⟨bv, 3, none⟩ = some (.int .i64 v3) ∧ w'.cell? ⟨bv, 4, none⟩ = some (.int .i64 v4) ∧ w'.cell? ⟨bv, 5, none⟩ = some (.int .i64 v5))
    ((refine HC.out _ ?_; repeat' (first | (with_reducible refine But.setp _ _ ?_) | (with_reducible refine But.setq _ _ ?_) | (with_reducible exact But.of (by assumption)) | (with_reducible exact But.of (bq_drew (bq_refl _))))))
    (first
      | (go_at_call 66; refine (HA.out W3 _ (by first | assumption | exact bq_refl _)).mono ?_; rintro e w10 ⟨rfl, hb10⟩; have d0 : w10.cell? ⟨br, 0, none⟩ = some (.int .i64 0) := (BR.out.keep hb10).cell 0; have f0 := (BR.out.keep hb10).frozen 0; have d1 : w10.cell? ⟨br, 1, none⟩ = some (.int .i64 0) := (BR.out.keep hb10).cell 1; have f1 := (BR.out.keep hb10).frozen 1; have d2 : w10.cell? ⟨br, 2, none⟩ = some (.int .i64 0) := (BR.out.keep hb10).cell 2; have f2 := (BR.out.keep hb10).frozen 2; have d3 : w10.cell? ⟨br, 3, none⟩ = some (.int .i64 0) := (BR.out.keep hb10).cell 3; have f3 := (BR.out.keep hb10).frozen 3; have d4 : w10.cell? ⟨br, 4, none⟩ = some (.int .i64 0) := (BR.out.keep hb10).cell 4; have f4 := (BR.out.keep hb10).frozen 4; have d5 : w10.cell? ⟨br, 5, none⟩ = some (.int .i64 0) := (BR.out.keep hb10).cell 5; have f5 := (BR.out.keep hb10).frozen 5; have p0 := (BO.out.keep hb10).cell 0; have p1 := (BO.out.keep hb10).cell 1; have q0 := (BO.out.keep hb10).frozen 0; have q1 := (BO.out.keep hb10).frozen 1))
  have R9 : Blk ((((((((w10.setCell ⟨br, 0, none⟩ (.int .i64 v0)).setCell ⟨br, 1, none⟩ (.int .i64 v1)).setCell ⟨br, 2, none⟩ (.int .i64 v2)).setCell ⟨br, 3, none⟩ (.int .i64 v3)).setCell ⟨br, 4, none⟩ (.int .i64 v4)).setCell ⟨br, 5, none⟩ (.int .i64 v5)).setCell ⟨bo, 0, none⟩ (.string xs)).setCell ⟨bo, 1, none⟩ (.int .i64 ya)) br (iA [v0, v1, v2, v3, v4, v5]) 27 := by rw [← sets6]; exact (((((((((BR.out.keep hb10).set 0 _).set 1 _).set 2 _).set 3 _).set 4 _).set 5 _).other _ nro).other _ nro)
  have O9 : Blk ((((((((w10.setCell ⟨br, 0, none⟩ (.int .i64 v0)).setCell ⟨br, 1, none⟩ (.int .i64 v1)).setCell ⟨br, 2, none⟩ (.int .i64 v2)).setCell ⟨br, 3, none⟩ (.int .i64 v3)).setCell ⟨br, 4, none⟩ (.int .i64 v4)).setCell ⟨br, 5, none⟩ (.int .i64 v5)).setCell ⟨bo, 0, none⟩ (.string xs)).setCell ⟨bo, 1, none⟩ (.int .i64 ya)) bo #[.string xs, .int .i64 ya] 51 := (((((((((BO.out.keep hb10).other _ nor).other _ nor).other _ nor).other _ nor).other _ nor).other _ nor).set 0 _).set 1 _)
  go_wp2
  exact post_cell2_tmp (v := .int .i64 0) Try.underlying27 rfl size27e Try.underlying51 rfl size51 Try.results52 R9 rfl O9 rfl rfl rfl rfl rfl ⟨rfl, bq_set (bq_set (bq_set (bq_set (bq_set (bq_set (bq_set (bq_set (bq_trans HB.out hb10) _ gr _) _ gr _) _ gr _) _ gr _) _ gr _) _ gr _) _ go _) _ go _⟩
theorem endmatrix_any (x : RS) (v0 v1 v2 v3 v4 v5 : Int) (q : Bool) (w : World) (bt : Nat) (hs : x.s.size ≤ 1000000) (hx : Tk w bt x) :
    Calls Try.prog 52 #[.pointer (some ⟨bt, 0, none⟩), .agg (iA [v0, v1, v2, v3, v4, v5]), .bool q] w fun e w' => e = .returned (.tuple #[.agg (iA (if (x.fin q).e = 0 then [v0, v1, v2, v3, v4, v5] else [0, 0, 0, 0, 0, 0])), .agg #[.string (x.fin q).s, .int .i64 (x.fin q).a], .int .i64 (x.fin q).e]) ∧ Below w.heap.size w w' := by
  by_cases he : x.e = 0
  · have hx' : Blk w bt #[.string x.s, .int .i64 x.a, .int .i64 0] 115 := by
      have := hx
      unfold Tk RS.cells at this
      rw [he] at this
      exact this
    cases q
    · have ef : x.fin false = ⟨⟨#[]⟩, 0, 3⟩ := by unfold RS.fin; rw [if_pos he]; rfl
      rw [ef, if_neg (by decide)]
      exact endmatrix_not x.s x.a v0 v1 v2 v3 v4 v5 w bt hx'
    · have ef : x.fin true = ⟨x.s, alA x.s.size x.a, 0⟩ := by unfold RS.fin; rw [if_pos he]; rfl
      rw [ef, if_pos rfl]
      exact endmatrix_ok x.s x.a _ v0 v1 v2 v3 v4 v5 w bt hs rfl hx'
  · have ef : x.fin q = ⟨⟨#[]⟩, 0, x.e⟩ := by unfold RS.fin; rw [if_neg he]
    rw [ef, if_neg he]
    exact endmatrix_err x.s x.a x.e v0 v1 v2 v3 v4 v5 q w bt (by rw [beq_eq_false_iff_ne]; exact he) (by rw [bne_iff_ne]; exact he) hx
theorem size30e : (Try.prog.info? 30).map (·.size) = some 8 := by kernel_rfl
theorem zero30e (w : World) : (zeroValue 30).run Try.prog w = .ok (.agg (iA [0, 0, 0, 0, 0, 0, 0, 0])) w := Try.zeroValue30 w
theorem sets8 (v0 v1 v2 v3 v4 v5 v6 v7 : Int) : (((((((((iA [0, 0, 0, 0, 0, 0, 0, 0]).setIfInBounds 0 (.int .i64 v0)).setIfInBounds 1 (.int .i64 v1)).setIfInBounds 2 (.int .i64 v2)).setIfInBounds 3 (.int .i64 v3)).setIfInBounds 4 (.int .i64 v4)).setIfInBounds 5 (.int .i64 v5)).setIfInBounds 6 (.int .i64 v6)).setIfInBounds 7 (.int .i64 v7)) = iA [v0, v1, v2, v3, v4, v5, v6, v7] := by kernel_rfl
set_option maxHeartbeats 1000000 in
theorem endcx_err (xs : ByteArray) (xa xe v0 v1 v2 v3 v4 v5 v6 v7 : Int) (q : Bool) (w : World) (bt : Nat) (he : (xe == 0) = false) (he2 : (xe != 0) = true) (Bt : Blk w bt #[.string xs, .int .i64 xa, .int .i64 xe] 115) :
    Calls Try.prog 53 #[.pointer (some ⟨bt, 0, none⟩), .agg (iA [v0, v1, v2, v3, v4, v5, v6, v7]), .bool q] w fun e w' => e = .returned (.tuple #[.agg (iA [0, 0, 0, 0, 0, 0, 0, 0]), .agg #[.string ⟨#[]⟩, .int .i64 0], .int .i64 xe]) ∧ Below w.heap.size w w' := by
  go_enter Try.func53, Try.ntmps53
  go_wp2_with (first
    | (refine wl_box 30 _ _ rfl rfl (show _ = Value.agg (iA [v0, v1, v2, v3, v4, v5, v6, v7]) from rfl) ?_; intro W1 bv Bv_1 l1 k1; have gv : w.heap.size ≤ bv := l1; have ntv : bt ≠ bv := Nat.ne_of_lt (Nat.lt_of_lt_of_le Bt.lt l1); have Bt_1 := Bt.keep k1; have Hw1 := k1; clear l1 k1 Bt)
    | (refine wl_alloc 30 _ zero30e rfl rfl ?_; intro W2 br Br_2 l2 k2; have gr : w.heap.size ≤ br := Nat.le_trans Hw1.size l2; have ntr : bt ≠ br := Nat.ne_of_lt (Nat.lt_of_lt_of_le Bt_1.lt l2); have nvr : bv ≠ br := Nat.ne_of_lt (Nat.lt_of_lt_of_le Bv_1.lt l2); have Bt_2 := Bt_1.keep k2; have Bv_2 := Bv_1.keep k2; have Hw2 := bq_trans Hw1 k2; clear l2 k2 Bt_1 Bv_1 Hw1)
    | (refine wl_alloc 51 _ zero51 rfl rfl ?_; intro W3 bo Bo_3 l3 k3; have go : w.heap.size ≤ bo := Nat.le_trans Hw2.size l3; have nto : bt ≠ bo := Nat.ne_of_lt (Nat.lt_of_lt_of_le Bt_2.lt l3); have nvo : bv ≠ bo := Nat.ne_of_lt (Nat.lt_of_lt_of_le Bv_2.lt l3); have nro : br ≠ bo := Nat.ne_of_lt (Nat.lt_of_lt_of_le Br_2.lt l3); have Bt_3 := Bt_2.keep k3; have Bv_3 := Bv_2.keep k3; have Br_3 := Br_2.keep k3; have Hw3 := bq_trans Hw2 k3; clear l3 k3 Bt_2 Bv_2 Br_2 Hw2; have ct_2_3 : W3.cell? ⟨bt, 2, none⟩ = some (.int .i64 xe) := Bt_3.cell 2)
    | (refine wl_alloc 30 _ zero30e rfl rfl ?_; intro W4 bn Bn_4 l4 k4; have gn : w.heap.size ≤ bn := Nat.le_trans Hw3.size l4; have ntn : bt ≠ bn := Nat.ne_of_lt (Nat.lt_of_lt_of_le Bt_3.lt l4); have nvn : bv ≠ bn := Nat.ne_of_lt (Nat.lt_of_lt_of_le Bv_3.lt l4); have nrn : br ≠ bn := Nat.ne_of_lt (Nat.lt_of_lt_of_le Br_3.lt l4); have non : bo ≠ bn := Nat.ne_of_lt (Nat.lt_of_lt_of_le Bo_3.lt l4); have Bt_4 := Bt_3.keep k4; have Bv_4 := Bv_3.keep k4; have Br_4 := Br_3.keep k4; have Bo_4 := Bo_3.keep k4; have Hw4 := bq_trans Hw3 k4; clear l4 k4 Bt_3 Bv_3 Br_3 Bo_3 ct_2_3 Hw3)
    | (refine wl_load 30 8 _ Try.underlying30 rfl size30e _ rfl rfl _ rfl _ _ Bn_4 rfl ?_)
    | (refine wl_store 30 8 size30e _ _ rfl rfl _ rfl _ rfl _ _ Br_4 rfl rfl (by kernel_rfl) ?_; intro W5 Br_5 T5; have Bt_5 := T5.blk Bt_4 ntr; have Bv_5 := T5.blk Bv_4 nvr; have Bo_5 := T5.blk Bo_4 (Ne.symm nro); have Bn_5 := T5.blk Bn_4 (Ne.symm nrn); have Hw5 := T5.below Hw4 gr; clear T5 Bt_4 Bv_4 Bo_4 Bn_4 Br_4 Hw4)
    | (refine wl_store 51 2 size51 _ _ rfl rfl _ rfl #[.string ⟨#[]⟩, .int .i64 0] rfl _ _ Bo_5 rfl rfl (by kernel_rfl) ?_; intro W6 Bo_6 T6; have Bt_6 := T6.blk Bt_5 nto; have Bv_6 := T6.blk Bv_5 nvo; have Br_6 := T6.blk Br_5 nro; have Bn_6 := T6.blk Bn_5 (Ne.symm non); have Hw6 := T6.below Hw5 go; clear T6 Bt_5 Bv_5 Br_5 Bn_5 Bo_5 Hw5))
  exact post_cell2_tmp (v := .int .i64 xe) Try.underlying30 rfl size30e Try.underlying51 rfl size51 Try.results53 Br_6 rfl Bo_6 rfl rfl rfl rfl rfl ⟨rfl, Hw6⟩
set_option maxHeartbeats 1000000 in
theorem endcx_not (xs : ByteArray) (xa v0 v1 v2 v3 v4 v5 v6 v7 : Int)  (w : World) (bt : Nat)  (Bt : Blk w bt #[.string xs, .int .i64 xa, .int .i64 0] 115) :
    Calls Try.prog 53 #[.pointer (some ⟨bt, 0, none⟩), .agg (iA [v0, v1, v2, v3, v4, v5, v6, v7]), .bool false] w fun e w' => e = .returned (.tuple #[.agg (iA [0, 0, 0, 0, 0, 0, 0, 0]), .agg #[.string ⟨#[]⟩, .int .i64 0], .int .i64 3]) ∧ Below w.heap.size w w' := by
  go_enter Try.func53, Try.ntmps53
  go_wp2_with (first
    | (refine wl_box 30 _ _ rfl rfl (show _ = Value.agg (iA [v0, v1, v2, v3, v4, v5, v6, v7]) from rfl) ?_; intro W1 bv Bv_1 l1 k1; have gv : w.heap.size ≤ bv := l1; have ntv : bt ≠ bv := Nat.ne_of_lt (Nat.lt_of_lt_of_le Bt.lt l1); have Bt_1 := Bt.keep k1; have Hw1 := k1; clear l1 k1 Bt)
    | (refine wl_alloc 30 _ zero30e rfl rfl ?_; intro W2 br Br_2 l2 k2; have gr : w.heap.size ≤ br := Nat.le_trans Hw1.size l2; have ntr : bt ≠ br := Nat.ne_of_lt (Nat.lt_of_lt_of_le Bt_1.lt l2); have nvr : bv ≠ br := Nat.ne_of_lt (Nat.lt_of_lt_of_le Bv_1.lt l2); have Bt_2 := Bt_1.keep k2; have Bv_2 := Bv_1.keep k2; have Hw2 := bq_trans Hw1 k2; clear l2 k2 Bt_1 Bv_1 Hw1)
    | (refine wl_alloc 51 _ zero51 rfl rfl ?_; intro W3 bo Bo_3 l3 k3; have go : w.heap.size ≤ bo := Nat.le_trans Hw2.size l3; have nto : bt ≠ bo := Nat.ne_of_lt (Nat.lt_of_lt_of_le Bt_2.lt l3); have nvo : bv ≠ bo := Nat.ne_of_lt (Nat.lt_of_lt_of_le Bv_2.lt l3); have nro : br ≠ bo := Nat.ne_of_lt (Nat.lt_of_lt_of_le Br_2.lt l3); have Bt_3 := Bt_2.keep k3; have Bv_3 := Bv_2.keep k3; have Br_3 := Br_2.keep k3; have Hw3 := bq_trans Hw2 k3; clear l3 k3 Bt_2 Bv_2 Br_2 Hw2; have ct_2_3 : W3.cell? ⟨bt, 2, none⟩ = some (.int .i64 0) := Bt_3.cell 2)
    | (refine wl_alloc 30 _ zero30e rfl rfl ?_; intro W4 bn Bn_4 l4 k4; have gn : w.heap.size ≤ bn := Nat.le_trans Hw3.size l4; have ntn : bt ≠ bn := Nat.ne_of_lt (Nat.lt_of_lt_of_le Bt_3.lt l4); have nvn : bv ≠ bn := Nat.ne_of_lt (Nat.lt_of_lt_of_le Bv_3.lt l4); have nrn : br ≠ bn := Nat.ne_of_lt (Nat.lt_of_lt_of_le Br_3.lt l4); have non : bo ≠ bn := Nat.ne_of_lt (Nat.lt_of_lt_of_le Bo_3.lt l4); have Bt_4 := Bt_3.keep k4; have Bv_4 := Bv_3.keep k4; have Br_4 := Br_3.keep k4; have Bo_4 := Bo_3.keep k4; have Hw4 := bq_trans Hw3 k4; clear l4 k4 Bt_3 Bv_3 Br_3 Bo_3 ct_2_3 Hw3)
    | (refine wl_load 30 8 _ Try.underlying30 rfl size30e _ rfl rfl _ rfl _ _ Bn_4 rfl ?_)
    | (refine wl_store 30 8 size30e _ _ rfl rfl _ rfl _ rfl _ _ Br_4 rfl rfl (by kernel_rfl) ?_; intro W5 Br_5 T5; have Bt_5 := T5.blk Bt_4 ntr; have Bv_5 := T5.blk Bv_4 nvr; have Bo_5 := T5.blk Bo_4 (Ne.symm nro); have Bn_5 := T5.blk Bn_4 (Ne.symm nrn); have Hw5 := T5.below Hw4 gr; clear T5 Bt_4 Bv_4 Bo_4 Bn_4 Br_4 Hw4)
    | (refine wl_store 51 2 size51 _ _ rfl rfl _ rfl #[.string ⟨#[]⟩, .int .i64 0] rfl _ _ Bo_5 rfl rfl (by kernel_rfl) ?_; intro W6 Bo_6 T6; have Bt_6 := T6.blk Bt_5 nto; have Bv_6 := T6.blk Bv_5 nvo; have Br_6 := T6.blk Br_5 nro; have Bn_6 := T6.blk Bn_5 (Ne.symm non); have Hw6 := T6.below Hw5 go; clear T6 Bt_5 Bv_5 Br_5 Bn_5 Bo_5 Hw5))
  exact post_cell2_tmp (v := .int .i64 3) Try.underlying30 rfl size30e Try.underlying51 rfl size51 Try.results53 Br_6 rfl Bo_6 rfl rfl rfl rfl rfl ⟨rfl, Hw6⟩
set_option maxHeartbeats 2000000 in
theorem endcx_ok (xs : ByteArray) (xa ya v0 v1 v2 v3 v4 v5 v6 v7 : Int) (w : World) (bt : Nat) (hs : xs.size ≤ 1000000) (hya : alA xs.size xa = ya) (Bt : Blk w bt #[.string xs, .int .i64 xa, .int .i64 0] 115) :
    Calls Try.prog 53 #[.pointer (some ⟨bt, 0, none⟩), .agg (iA [v0, v1, v2, v3, v4, v5, v6, v7]), .bool true] w fun e w' => e = .returned (.tuple #[.agg (iA [v0, v1, v2, v3, v4, v5, v6, v7]), .agg #[.string xs, .int .i64 ya], .int .i64 0]) ∧ Below w.heap.size w w' := by
  have HA : Hid (∀ W0 W, Below W0.heap.size W0 W → Calls Try.prog 66 #[.agg #[.string xs, .int .i64 xa]] W fun e w' => e = .returned (.agg #[.string xs, .int .i64 ya]) ∧ Below W0.heap.size W0 w') := Lib.hid fun W0 W hW => by
    rw [← hya]
    exact (align_any xs xa W (by omega)).mono fun e w' ⟨h1, h2⟩ => ⟨h1, bq_trans hW h2⟩
  clear hya hs
  go_enter Try.func53, Try.ntmps53
  go_wp2_with (first
    | (refine wl_box 30 _ _ rfl rfl (show _ = Value.agg (iA [v0, v1, v2, v3, v4, v5, v6, v7]) from rfl) ?_; intro W1 bv Bv_1 l1 k1; have gv : w.heap.size ≤ bv := l1; have ntv : bt ≠ bv := Nat.ne_of_lt (Nat.lt_of_lt_of_le Bt.lt l1); have Bt_1 := Bt.keep k1; have Hw1 := k1; clear l1 k1 Bt)
    | (refine wl_alloc 30 _ zero30e rfl rfl ?_; intro W2 br Br_2 l2 k2; have gr : w.heap.size ≤ br := Nat.le_trans Hw1.size l2; have ntr : bt ≠ br := Nat.ne_of_lt (Nat.lt_of_lt_of_le Bt_1.lt l2); have nvr : bv ≠ br := Nat.ne_of_lt (Nat.lt_of_lt_of_le Bv_1.lt l2); have Bt_2 := Bt_1.keep k2; have Bv_2 := Bv_1.keep k2; have Hw2 := bq_trans Hw1 k2; clear l2 k2 Bt_1 Bv_1 Hw1)
    | (refine wl_alloc 51 _ zero51 rfl rfl ?_; intro W3 bo Bo_3 l3 k3; have go : w.heap.size ≤ bo := Nat.le_trans Hw2.size l3; have nto : bt ≠ bo := Nat.ne_of_lt (Nat.lt_of_lt_of_le Bt_2.lt l3); have nvo : bv ≠ bo := Nat.ne_of_lt (Nat.lt_of_lt_of_le Bv_2.lt l3); have nro : br ≠ bo := Nat.ne_of_lt (Nat.lt_of_lt_of_le Br_2.lt l3); have Bt_3 := Bt_2.keep k3; have Bv_3 := Bv_2.keep k3; have Br_3 := Br_2.keep k3; have Hw3 := bq_trans Hw2 k3; clear l3 k3 Bt_2 Bv_2 Br_2 Hw2; have ct_2_3 : W3.cell? ⟨bt, 2, none⟩ = some (.int .i64 0) := Bt_3.cell 2))
  have BR := Lib.hid Br_3
  have BO := Lib.hid Bo_3
  have HB := Lib.hid Hw3
  have nor := Ne.symm nro
  have ne1 : ¬ br = bo := nro
  have ne2 : ¬ bo = br := nor
  have HC : Hid (∀ w', But br bo W3 w' → w'.cell? ⟨bt, 0, none⟩ = some (.string xs) ∧ w'.cell? ⟨bt, 1, none⟩ = some (.int .i64 xa) ∧ w'.cell? ⟨bv, 0, none⟩ = some (.int .i64 v0) ∧ w'.cell? ⟨bv, 1, none⟩ = some (.int .i64 v1) ∧ w'.cell? ⟨bv, 2, none⟩ = some (.int .i64 v2) ∧ w'.cell? ⟨bv, 3, none⟩ = some (.int .i64 v3) ∧ w'.cell? ⟨bv, 4, none⟩ = some (.int .i64 v4) ∧ w'.cell? ⟨bv, 5, none⟩ = some (.int .i64 v5) ∧ w'.cell? ⟨bv, 6, none⟩ = some (.int .i64 v6) ∧ w'.cell? ⟨bv, 7, none⟩ = some (.int .i64 v7)) := Lib.hid fun w' hw' => ⟨(Bt_3.but hw' ntr nto).cell 0, (Bt_3.but hw' ntr nto).cell 1, (Bv_3.but hw' nvr nvo).cell 0, (Bv_3.but hw' nvr nvo).cell 1, (Bv_3.but hw' nvr nvo).cell 2, (Bv_3.but hw' nvr nvo).cell 3, (Bv_3.but hw' nvr nvo).cell 4, (Bv_3.but hw' nvr nvo).cell 5, (Bv_3.but hw' nvr nvo).cell 6, (Bv_3.but hw' nvr nvo).cell 7⟩
  have hd0 : Below W3.heap.size W3 W3.drew := bq_drew (bq_refl W3)
  clear Bt_3 Bv_3 Br_3 Bo_3 Hw3 ct_2_3
  go_region_held3 (fun w' => w'.cell? ⟨bt, 0, none⟩ = some (.string xs) ∧ w'.cell? ⟨bt, 1, none⟩ = some (.int .i64 xa) ∧ w'.cell? ⟨bv, 0, none⟩ = some (.int .i64 v0) ∧ w'.cell? ⟨bv, 1, none⟩ = some (.int .i64 v1) ∧ w'.cell? ⟨bv, 2, none⟩ = some (.int .i64 v2) ∧ w'.cell? ⟨bv, 3, none⟩ = some (.int .i64 v3) ∧ w'.cell? ⟨bv, 4, none⟩ = some (.int .i64 v4) ∧ w'.cell? ⟨bv, 5, none⟩ = some (.int .i64 v5) ∧ w'.cell? ⟨bv, 6, none⟩ = some (.int .i64 v6) ∧ w'.cell? ⟨bv, 7, none⟩ = some (.int .i64 v7))
    ((refine HC.out _ ?_; repeat' (first | (with_reducible refine But.setp _ _ ?_) | (with_reducible refine But.setq _ _ ?_) | (with_reducible exact But.of (by assumption)) | (with_reducible exact But.of (bq_drew (bq_refl _))))))
    (first
      | (go_at_call 66; refine (HA.out W3 _ (by first | assumption | exact bq_refl _)).mono ?_; rintro e w10 ⟨rfl, hb10⟩; have d0 : w10.cell? ⟨br, 0, none⟩ = some (.int .i64 0) := (BR.out.keep hb10).cell 0; have f0 := (BR.out.keep hb10).frozen 0; have d1 : w10.cell? ⟨br, 1, none⟩ = some (.int .i64 0) := (BR.out.keep hb10).cell 1; have f1 := (BR.out.keep hb10).frozen 1; have d2 : w10.cell? ⟨br, 2, none⟩ = some (.int .i64 0) := (BR.out.keep hb10).cell 2; have f2 := (BR.out.keep hb10).frozen 2; have d3 : w10.cell? ⟨br, 3, none⟩ = some (.int .i64 0) := (BR.out.keep hb10).cell 3; have f3 := (BR.out.keep hb10).frozen 3; have d4 : w10.cell? ⟨br, 4, none⟩ = some (.int .i64 0) := (BR.out.keep hb10).cell 4; have f4 := (BR.out.keep hb10).frozen 4; have d5 : w10.cell? ⟨br, 5, none⟩ = some (.int .i64 0) := (BR.out.keep hb10).cell 5; have f5 := (BR.out.keep hb10).frozen 5; have d6 : w10.cell? ⟨br, 6, none⟩ = some (.int .i64 0) := (BR.out.keep hb10).cell 6; have f6 := (BR.out.keep hb10).frozen 6; have d7 : w10.cell? ⟨br, 7, none⟩ = some (.int .i64 0) := (BR.out.keep hb10).cell 7; have f7 := (BR.out.keep hb10).frozen 7; have p0 := (BO.out.keep hb10).cell 0; have p1 := (BO.out.keep hb10).cell 1; have q0 := (BO.out.keep hb10).frozen 0; have q1 := (BO.out.keep hb10).frozen 1))
  have R9 : Blk ((((((((((w10.setCell ⟨br, 0, none⟩ (.int .i64 v0)).setCell ⟨br, 1, none⟩ (.int .i64 v1)).setCell ⟨br, 2, none⟩ (.int .i64 v2)).setCell ⟨br, 3, none⟩ (.int .i64 v3)).setCell ⟨br, 4, none⟩ (.int .i64 v4)).setCell ⟨br, 5, none⟩ (.int .i64 v5)).setCell ⟨br, 6, none⟩ (.int .i64 v6)).setCell ⟨br, 7, none⟩ (.int .i64 v7)).setCell ⟨bo, 0, none⟩ (.string xs)).setCell ⟨bo, 1, none⟩ (.int .i64 ya)) br (iA [v0, v1, v2, v3, v4, v5, v6, v7]) 30 := by rw [← sets8]; exact (((((((((((BR.out.keep hb10).set 0 _).set 1 _).set 2 _).set 3 _).set 4 _).set 5 _).set 6 _).set 7 _).other _ nro).other _ nro)
  have O9 : Blk ((((((((((w10.setCell ⟨br, 0, none⟩ (.int .i64 v0)).setCell ⟨br, 1, none⟩ (.int .i64 v1)).setCell ⟨br, 2, none⟩ (.int .i64 v2)).setCell ⟨br, 3, none⟩ (.int .i64 v3)).setCell ⟨br, 4, none⟩ (.int .i64 v4)).setCell ⟨br, 5, none⟩ (.int .i64 v5)).setCell ⟨br, 6, none⟩ (.int .i64 v6)).setCell ⟨br, 7, none⟩ (.int .i64 v7)).setCell ⟨bo, 0, none⟩ (.string xs)).setCell ⟨bo, 1, none⟩ (.int .i64 ya)) bo #[.string xs, .int .i64 ya] 51 := (((((((((((BO.out.keep hb10).other _ nor).other _ nor).other _ nor).other _ nor).other _ nor).other _ nor).other _ nor).other _ nor).set 0 _).set 1 _)
  go_wp2
  exact post_cell2_tmp (v := .int .i64 0) Try.underlying30 rfl size30e Try.underlying51 rfl size51 Try.results53 R9 rfl O9 rfl rfl rfl rfl rfl ⟨rfl, bq_set (bq_set (bq_set (bq_set (bq_set (bq_set (bq_set (bq_set (bq_set (bq_set (bq_trans HB.out hb10) _ gr _) _ gr _) _ gr _) _ gr _) _ gr _) _ gr _) _ gr _) _ gr _) _ go _) _ go _⟩
theorem endcx_any (x : RS) (v0 v1 v2 v3 v4 v5 v6 v7 : Int) (q : Bool) (w : World) (bt : Nat) (hs : x.s.size ≤ 1000000) (hx : Tk w bt x) :
    Calls Try.prog 53 #[.pointer (some ⟨bt, 0, none⟩), .agg (iA [v0, v1, v2, v3, v4, v5, v6, v7]), .bool q] w fun e w' => e = .returned (.tuple #[.agg (iA (if (x.fin q).e = 0 then [v0, v1, v2, v3, v4, v5, v6, v7] else [0, 0, 0, 0, 0, 0, 0, 0])), .agg #[.string (x.fin q).s, .int .i64 (x.fin q).a], .int .i64 (x.fin q).e]) ∧ Below w.heap.size w w' := by
  by_cases he : x.e = 0
  · have hx' : Blk w bt #[.string x.s, .int .i64 x.a, .int .i64 0] 115 := by
      have := hx
      unfold Tk RS.cells at this
      rw [he] at this
      exact this
    cases q
    · have ef : x.fin false = ⟨⟨#[]⟩, 0, 3⟩ := by unfold RS.fin; rw [if_pos he]; rfl
      rw [ef, if_neg (by decide)]
      exact endcx_not x.s x.a v0 v1 v2 v3 v4 v5 v6 v7 w bt hx'
    · have ef : x.fin true = ⟨x.s, alA x.s.size x.a, 0⟩ := by unfold RS.fin; rw [if_pos he]; rfl
      rw [ef, if_pos rfl]
      exact endcx_ok x.s x.a _ v0 v1 v2 v3 v4 v5 v6 v7 w bt hs rfl hx'
  · have ef : x.fin q = ⟨⟨#[]⟩, 0, x.e⟩ := by unfold RS.fin; rw [if_neg he]
    rw [ef, if_neg he]
    exact endcx_err x.s x.a x.e v0 v1 v2 v3 v4 v5 v6 v7 q w bt (by rw [beq_eq_false_iff_ne]; exact he) (by rw [bne_iff_ne]; exact he) hx
end Go.Proofs.Ytfaipbdkkkhacaa
/- Layer 7: the rectangle is taken. -/
namespace Go.Proofs.Ytfaipbdkkkhacaa
open Go.RowKit
set_option linter.unusedVariables false

theorem Tk.lt {w : World} {b : Nat} {x : RS} (h : Tk w b x) : b < w.heap.size := Blk.lt h
theorem Tk.but {p q b : Nat} {w w' : World} {x : RS} (hB : Tk w b x) (h : But p q w w') (hp : b ≠ p) (hq : b ≠ q) : Tk w' b x := Blk.but hB h hp hq
theorem Turned.tk {w w' : World} {b g : Nat} {x : RS} (h : Turned g w w') (hB : Tk w b x) (hn : b ≠ g) : Tk w' b x := h.blk hB hn
theorem size28a : (Try.prog.info? 28).map (·.size) = some 4 := by kernel_rfl
set_option maxHeartbeats 2000000 in
theorem takerect_walk (s zs : ByteArray) (a n l0 l1 l2 l3 e0 e1 e2 e3 za ze : Int) (x0 x1 x2 : RS) (q : Bool) (w : World)
    (HP : Hid (∀ W bt, Tk W bt x0 → Calls Try.prog 48 #[.pointer (some ⟨bt, 0, none⟩), .int .i64 5] W fun e w' => e = .returned (.int .i64 n) ∧ Tk w' bt x1 ∧ But bt bt W w'))
    (HF : Hid (∀ W bt, Tk W bt x1 → Calls Try.prog 47 #[.pointer (some ⟨bt, 0, none⟩), .int .i64 n] W fun e w' => e = .returned (.agg (iA [l0, l1, l2, l3])) ∧ Tk w' bt x2 ∧ But bt bt W w'))
    (HG : Hid (∀ W, Calls Try.prog 46 #[.agg #[.string s, .int .i64 a]] W fun e w' => ∃ b, e = .returned (.pointer (some ⟨b, 0, none⟩)) ∧ Tk w' b x0 ∧ W.heap.size ≤ b ∧ Below W.heap.size W w'))
    (HR : Hid (∀ W, Calls Try.prog 17 #[.agg #[.int .i64 l0, .int .i64 l1, .int .i64 l2, .int .i64 l3]] W fun e w' => e = .returned (.bool q) ∧ Below W.heap.size W w'))
    (HE : Hid (∀ W bt, Tk W bt x2 → Calls Try.prog 49 #[.pointer (some ⟨bt, 0, none⟩), .agg #[.int .i64 l0, .int .i64 l1, .int .i64 l2, .int .i64 l3], .bool q] W fun e w' => e = .returned (.tuple #[.agg #[.int .i64 e0, .int .i64 e1, .int .i64 e2, .int .i64 e3], .agg #[.string zs, .int .i64 za], .int .i64 ze]) ∧ Below W.heap.size W w')) :
    Calls Try.prog 26 #[.agg #[.string s, .int .i64 a]] w fun e w' => e = .returned (.tuple #[.agg (iA [e0, e1, e2, e3]), .agg #[.string zs, .int .i64 za], .int .i64 ze]) ∧ Below w.heap.size w w' := by
  go_enter Try.func26, Try.ntmps26
  go_wp2_with (first
    | (refine wl_box 51 _ _ rfl rfl (show _ = Value.agg #[.string s, .int .i64 a] from rfl) ?_; intro W1 br Br_1 l1 k1; have gr : w.heap.size ≤ br := l1; have Hw1 := k1; clear l1 k1)
    | (refine wl_alloc 25 _ zero25e rfl rfl ?_; intro W2 ba Ba_2 l2 k2; have ga : w.heap.size ≤ ba := Nat.le_trans Hw1.size l2; have nra : br ≠ ba := Nat.ne_of_lt (Nat.lt_of_lt_of_le Br_1.lt l2); have Br_2 := Br_1.keep k2; have Hw2 := bq_trans Hw1 k2; clear l2 k2 Br_1 Hw1)
    | (refine wl_alloc 51 _ zero51 rfl rfl ?_; intro W3 bo Bo_3 l3 k3; have go : w.heap.size ≤ bo := Nat.le_trans Hw2.size l3; have nro : br ≠ bo := Nat.ne_of_lt (Nat.lt_of_lt_of_le Br_2.lt l3); have nao : ba ≠ bo := Nat.ne_of_lt (Nat.lt_of_lt_of_le Ba_2.lt l3); have Br_3 := Br_2.keep k3; have Ba_3 := Ba_2.keep k3; have Hw3 := bq_trans Hw2 k3; clear l3 k3 Br_2 Ba_2 Hw2)
    | (refine wl_load 51 2 _ Try.underlying51 rfl size51 _ rfl rfl _ rfl _ _ Br_3 rfl ?_)
    | (go_at_call 46; (with_reducible refine (HG.out _).mono ?_); rintro e W4 ⟨bt, rfl, Bt_4, l4, k4⟩; have gt : w.heap.size ≤ bt := Nat.le_trans Hw3.size l4; have nrt : br ≠ bt := Nat.ne_of_lt (Nat.lt_of_lt_of_le Br_3.lt l4); have nat : ba ≠ bt := Nat.ne_of_lt (Nat.lt_of_lt_of_le Ba_3.lt l4); have not : bo ≠ bt := Nat.ne_of_lt (Nat.lt_of_lt_of_le Bo_3.lt l4); have Br_4 := Br_3.keep k4; have Ba_4 := Ba_3.keep k4; have Bo_4 := Bo_3.keep k4; have Hw4 := bq_trans Hw3 k4; clear l4 k4 Br_3 Ba_3 Bo_3 Hw3)
    | (go_at_call 48; (with_reducible refine (HP.out _ _ Bt_4).mono ?_); rintro e W5 ⟨rfl, Bt_5, k5⟩; have Br_5 := Br_4.but k5 nrt nrt; have Ba_5 := Ba_4.but k5 nat nat; have Bo_5 := Bo_4.but k5 not not; have Hw5 := k5.below Hw4 gt gt; clear k5 Br_4 Ba_4 Bo_4 Bt_4 Hw4)
    | (go_at_call 47; (with_reducible refine (HF.out _ _ Bt_5).mono ?_); rintro e W6 ⟨rfl, Bt_6, k6⟩; have Br_6 := Br_5.but k6 nrt nrt; have Ba_6 := Ba_5.but k6 nat nat; have Bo_6 := Bo_5.but k6 not not; have Hw6 := k6.below Hw5 gt gt; clear k6 Br_5 Ba_5 Bo_5 Bt_5 Hw5)
    | (refine wl_alloc 28 _ zero28 rfl rfl ?_; intro W7 bl Bl_7 l7 k7; have gl : w.heap.size ≤ bl := Nat.le_trans Hw6.size l7; have nrl : br ≠ bl := Nat.ne_of_lt (Nat.lt_of_lt_of_le Br_6.lt l7); have nal : ba ≠ bl := Nat.ne_of_lt (Nat.lt_of_lt_of_le Ba_6.lt l7); have nol : bo ≠ bl := Nat.ne_of_lt (Nat.lt_of_lt_of_le Bo_6.lt l7); have ntl : bt ≠ bl := Nat.ne_of_lt (Nat.lt_of_lt_of_le Bt_6.lt l7); have Br_7 := Br_6.keep k7; have Ba_7 := Ba_6.keep k7; have Bo_7 := Bo_6.keep k7; have Bt_7 := Bt_6.keep k7; have Hw7 := bq_trans Hw6 k7; clear l7 k7 Br_6 Ba_6 Bo_6 Bt_6 Hw6)
    | (refine wl_store 28 4 size28a _ _ rfl rfl _ rfl _ rfl _ _ Bl_7 rfl rfl (by kernel_rfl) ?_; intro W8 Bl_8 T8; have Br_8 := T8.blk Br_7 nrl; have Ba_8 := T8.blk Ba_7 nal; have Bo_8 := T8.blk Bo_7 nol; have Bt_8 := T8.tk Bt_7 ntl; have Hw8 := T8.below Hw7 gl; clear T8 Br_7 Ba_7 Bo_7 Bt_7 Bl_7 Hw7; have cl_0_8 : W8.cell? ⟨bl, 0, none⟩ = some (.int .i64 l0) := Bl_8.cell 0; have cl_1_8 : W8.cell? ⟨bl, 1, none⟩ = some (.int .i64 l1) := Bl_8.cell 1; have cl_2_8 : W8.cell? ⟨bl, 2, none⟩ = some (.int .i64 l2) := Bl_8.cell 2; have cl_3_8 : W8.cell? ⟨bl, 3, none⟩ = some (.int .i64 l3) := Bl_8.cell 3)
    | (refine wl_alloc 25 _ zero25e rfl rfl ?_; intro W9 bc Bc_9 l9 k9; have gc : w.heap.size ≤ bc := Nat.le_trans Hw8.size l9; have nrc : br ≠ bc := Nat.ne_of_lt (Nat.lt_of_lt_of_le Br_8.lt l9); have nac : ba ≠ bc := Nat.ne_of_lt (Nat.lt_of_lt_of_le Ba_8.lt l9); have noc : bo ≠ bc := Nat.ne_of_lt (Nat.lt_of_lt_of_le Bo_8.lt l9); have ntc : bt ≠ bc := Nat.ne_of_lt (Nat.lt_of_lt_of_le Bt_8.lt l9); have nlc : bl ≠ bc := Nat.ne_of_lt (Nat.lt_of_lt_of_le Bl_8.lt l9); have Br_9 := Br_8.keep k9; have Ba_9 := Ba_8.keep k9; have Bo_9 := Bo_8.keep k9; have Bt_9 := Bt_8.keep k9; have Bl_9 := Bl_8.keep k9; have Hw9 := bq_trans Hw8 k9; clear l9 k9 Br_8 Ba_8 Bo_8 Bt_8 Bl_8 cl_0_8 cl_1_8 cl_2_8 cl_3_8 Hw8)
    | (refine wl_store 25 4 size25e _ _ rfl rfl _ rfl _ rfl _ _ Bc_9 rfl rfl (by kernel_rfl) ?_; intro W10 Bc_10 T10; have Br_10 := T10.blk Br_9 nrc; have Ba_10 := T10.blk Ba_9 nac; have Bo_10 := T10.blk Bo_9 noc; have Bt_10 := T10.tk Bt_9 ntc; have Bl_10 := T10.blk Bl_9 nlc; have Hw10 := T10.below Hw9 gc; clear T10 Br_9 Ba_9 Bo_9 Bt_9 Bl_9 Bc_9 Hw9))
  have BA := Lib.hid Ba_10
  have BO := Lib.hid Bo_10
  have HB := Lib.hid Hw10
  have noa := Ne.symm nao
  have ne1 : ¬ ba = bo := nao
  have ne2 : ¬ bo = ba := noa
  have HC : Hid (∀ w', But ba bo W10 w' → w'.cell? ⟨bc, 0, none⟩ = some (.int .i64 l0) ∧ w'.cell? ⟨bc, 1, none⟩ = some (.int .i64 l1) ∧ w'.cell? ⟨bc, 2, none⟩ = some (.int .i64 l2) ∧ w'.cell? ⟨bc, 3, none⟩ = some (.int .i64 l3)) := Lib.hid fun w' hw' => ⟨(Bc_10.but hw' (Ne.symm nac) (Ne.symm noc)).cell 0, (Bc_10.but hw' (Ne.symm nac) (Ne.symm noc)).cell 1, (Bc_10.but hw' (Ne.symm nac) (Ne.symm noc)).cell 2, (Bc_10.but hw' (Ne.symm nac) (Ne.symm noc)).cell 3⟩
  have HE2 : Hid (∀ W, Below W10.heap.size W10 W → Calls Try.prog 49 #[.pointer (some ⟨bt, 0, none⟩), .agg #[.int .i64 l0, .int .i64 l1, .int .i64 l2, .int .i64 l3], .bool q] W fun e w' => e = .returned (.tuple #[.agg #[.int .i64 e0, .int .i64 e1, .int .i64 e2, .int .i64 e3], .agg #[.string zs, .int .i64 za], .int .i64 ze]) ∧ Below W10.heap.size W10 w') := Lib.hid fun W h => (HE.out W bt (Bt_10.keep h)).mono fun e w' ⟨h1, h2⟩ => ⟨h1, bq_trans h h2⟩
  have HR2 : Hid (∀ W, Below W10.heap.size W10 W → Calls Try.prog 17 #[.agg #[.int .i64 l0, .int .i64 l1, .int .i64 l2, .int .i64 l3]] W fun e w' => e = .returned (.bool q) ∧ Below W10.heap.size W10 w') := Lib.hid fun W h => (HR.out W).mono fun e w' ⟨h1, h2⟩ => ⟨h1, bq_trans h h2⟩
  have hd0 : Below W10.heap.size W10 W10.drew := bq_drew (bq_refl W10)
  clear HE HR Br_10 Ba_10 Bo_10 Bt_10 Bl_10 Bc_10 Hw10 
  go_region_held3 (fun w' => w'.cell? ⟨bc, 0, none⟩ = some (.int .i64 l0) ∧ w'.cell? ⟨bc, 1, none⟩ = some (.int .i64 l1) ∧ w'.cell? ⟨bc, 2, none⟩ = some (.int .i64 l2) ∧ w'.cell? ⟨bc, 3, none⟩ = some (.int .i64 l3))
    ((refine HC.out _ ?_; repeat' (first | (with_reducible refine But.setp _ _ ?_) | (with_reducible refine But.setq _ _ ?_) | (with_reducible exact But.of (by assumption)) | (with_reducible exact But.of (bq_drew (bq_refl _))))))
    (first
      | (go_at_call 17; refine (HR2.out _ (by first | assumption | exact bq_refl _)).mono ?_; rintro e w9 ⟨rfl, hb9⟩)
      | (go_at_call 49; refine (HE2.out _ (by first | assumption | exact bq_refl _)).mono ?_; rintro e w10 ⟨rfl, hb10⟩; have d0 : w10.cell? ⟨ba, 0, none⟩ = some (.int .i64 0) := (BA.out.keep hb10).cell 0; have f0 := (BA.out.keep hb10).frozen 0; have d1 : w10.cell? ⟨ba, 1, none⟩ = some (.int .i64 0) := (BA.out.keep hb10).cell 1; have f1 := (BA.out.keep hb10).frozen 1; have d2 : w10.cell? ⟨ba, 2, none⟩ = some (.int .i64 0) := (BA.out.keep hb10).cell 2; have f2 := (BA.out.keep hb10).frozen 2; have d3 : w10.cell? ⟨ba, 3, none⟩ = some (.int .i64 0) := (BA.out.keep hb10).cell 3; have f3 := (BA.out.keep hb10).frozen 3; have p0 : w10.cell? ⟨bo, 0, none⟩ = some (.string ⟨#[]⟩) := (BO.out.keep hb10).cell 0; have p1 : w10.cell? ⟨bo, 1, none⟩ = some (.int .i64 0) := (BO.out.keep hb10).cell 1; have q0 := (BO.out.keep hb10).frozen 0; have q1 := (BO.out.keep hb10).frozen 1))
  have R9 : Blk ((((((w10.setCell ⟨ba, 0, none⟩ (.int .i64 e0)).setCell ⟨ba, 1, none⟩ (.int .i64 e1)).setCell ⟨ba, 2, none⟩ (.int .i64 e2)).setCell ⟨ba, 3, none⟩ (.int .i64 e3)).setCell ⟨bo, 0, none⟩ (.string zs)).setCell ⟨bo, 1, none⟩ (.int .i64 za)) ba (iA [e0, e1, e2, e3]) 25 := by rw [← sets4]; exact (((((((BA.out.keep hb10).set 0 _).set 1 _).set 2 _).set 3 _).other _ nao).other _ nao)
  have O9 : Blk ((((((w10.setCell ⟨ba, 0, none⟩ (.int .i64 e0)).setCell ⟨ba, 1, none⟩ (.int .i64 e1)).setCell ⟨ba, 2, none⟩ (.int .i64 e2)).setCell ⟨ba, 3, none⟩ (.int .i64 e3)).setCell ⟨bo, 0, none⟩ (.string zs)).setCell ⟨bo, 1, none⟩ (.int .i64 za)) bo #[.string zs, .int .i64 za] 51 := (((((((BO.out.keep hb10).other _ noa).other _ noa).other _ noa).other _ noa).set 0 _).set 1 _)
  go_wp2
  exact post_cell2_tmp (v := .int .i64 ze) Try.underlying25 rfl size25e Try.underlying51 rfl size51 Try.results26 R9 rfl O9 rfl rfl rfl rfl rfl ⟨rfl, bq_set (bq_set (bq_set (bq_set (bq_set (bq_set (bq_trans HB.out hb10) _ ga _) _ ga _) _ ga _) _ ga _) _ go _) _ go _⟩
end Go.Proofs.Ytfaipbdkkkhacaa
