import Derived.Test.YtfaipbdkkkhacaaYW0
import Derived.Test.YtfaipbdkkkhacaaYW1
import Derived.Test.YtfaipbdkkkhacaaYW2
import Derived.Test.YtfaipbdkkkhacaaYW3
import Derived.Test.YtfaipbdkkkhacaaYM
/- Layer 7: FieldPuts. -/
namespace Go.Proofs.Ytfaipbdkkkhacaa
open Go.RowKit
set_option linter.unusedVariables false

theorem puts1 (s : ByteArray) (f l r t b : Int) (hs : s.size ≤ 1000000) (hl : I64 l) (hr : I64 r) (ht : I64 t) (hb : I64 b) :
    ((Hid (∀ W, Calls Try.prog 9 #[.agg #[.string s, .int .i64 f], .agg #[.int .i64 l, .int .i64 r, .int .i64 t, .int .i64 b]] W fun e w' => e = .returned (.tuple #[.agg #[.string ⟨#[]⟩, .int .i64 0], .int .i64 1]) ∧ Below W.heap.size W w')) ∧ (Hid (∀ W, Calls Try.prog 13 #[.agg #[.int .i64 l, .int .i64 r, .int .i64 t, .int .i64 b]] W fun e w' => e = .returned (.bool false) ∧ Below W.heap.size W w')) ∧ (Hid (∀ W, Calls Try.prog 17 #[.agg #[.int .i64 l, .int .i64 r, .int .i64 t, .int .i64 b]] W fun e w' => e = .returned (.bool false) ∧ Below W.heap.size W w'))) ∨
    (∃ u1 : ByteArray, (Hid (∀ W, Calls Try.prog 9 #[.agg #[.string s, .int .i64 f], .agg #[.int .i64 l, .int .i64 r, .int .i64 t, .int .i64 b]] W fun e w' => e = .returned (.tuple #[.agg #[.string u1, .int .i64 0], .int .i64 0]) ∧ Below W.heap.size W w')) ∧ (Hid (∀ W, Calls Try.prog 13 #[.agg #[.int .i64 l, .int .i64 r, .int .i64 t, .int .i64 b]] W fun e w' => e = .returned (.bool true) ∧ Below W.heap.size W w')) ∧ (Hid (∀ W, Calls Try.prog 17 #[.agg #[.int .i64 l, .int .i64 r, .int .i64 t, .int .i64 b]] W fun e w' => e = .returned (.bool true) ∧ Below W.heap.size W w')) ∧ (Hid (∀ W, Calls Try.prog 22 #[.string s, .agg #[.int .i64 l, .int .i64 r, .int .i64 t, .int .i64 b]] W fun e w' => e = .returned (.string u1) ∧ Below W.heap.size W w'))) := by
  cases q : rectOk l r t b
  · left
    have rr := fun W => rightrect_any l r t b W hl hr ht hb
    have xx := fun W => refrect_any l r t b W
    rw [q] at rr xx
    exact ⟨Lib.hid fun W => putrect_bad s f l r t b W hl hr ht hb q, Lib.hid xx, Lib.hid rr⟩
  · right
    have rr := fun W => rightrect_any l r t b W hl hr ht hb
    have xx := fun W => refrect_any l r t b W
    rw [q] at rr xx
    exact ⟨s ++ bs (F.bys (rectF l r t b)), Lib.hid fun W => putrect_ok s f l r t b W hs q, Lib.hid xx, Lib.hid rr, Lib.hid fun W => refputrect_ok s l r t b W hs q⟩
theorem puts2 (s : ByteArray) (f ma mb mc md mx my : Int) (hs : s.size ≤ 1000000) (hma : I64 ma) (hmb : I64 mb) (hmc : I64 mc) (hmd : I64 md) (hmx : I64 mx) (hmy : I64 my) :
    ((Hid (∀ W, Calls Try.prog 10 #[.agg #[.string s, .int .i64 f], .agg #[.int .i64 ma, .int .i64 mb, .int .i64 mc, .int .i64 md, .int .i64 mx, .int .i64 my]] W fun e w' => e = .returned (.tuple #[.agg #[.string ⟨#[]⟩, .int .i64 0], .int .i64 1]) ∧ Below W.heap.size W w')) ∧ (Hid (∀ W, Calls Try.prog 14 #[.agg #[.int .i64 ma, .int .i64 mb, .int .i64 mc, .int .i64 md, .int .i64 mx, .int .i64 my]] W fun e w' => e = .returned (.bool false) ∧ Below W.heap.size W w')) ∧ (Hid (∀ W, Calls Try.prog 18 #[.agg #[.int .i64 ma, .int .i64 mb, .int .i64 mc, .int .i64 md, .int .i64 mx, .int .i64 my]] W fun e w' => e = .returned (.bool false) ∧ Below W.heap.size W w'))) ∨
    (∃ u2 : ByteArray, (Hid (∀ W, Calls Try.prog 10 #[.agg #[.string s, .int .i64 f], .agg #[.int .i64 ma, .int .i64 mb, .int .i64 mc, .int .i64 md, .int .i64 mx, .int .i64 my]] W fun e w' => e = .returned (.tuple #[.agg #[.string u2, .int .i64 0], .int .i64 0]) ∧ Below W.heap.size W w')) ∧ (Hid (∀ W, Calls Try.prog 14 #[.agg #[.int .i64 ma, .int .i64 mb, .int .i64 mc, .int .i64 md, .int .i64 mx, .int .i64 my]] W fun e w' => e = .returned (.bool true) ∧ Below W.heap.size W w')) ∧ (Hid (∀ W, Calls Try.prog 18 #[.agg #[.int .i64 ma, .int .i64 mb, .int .i64 mc, .int .i64 md, .int .i64 mx, .int .i64 my]] W fun e w' => e = .returned (.bool true) ∧ Below W.heap.size W w')) ∧ (Hid (∀ W, Calls Try.prog 23 #[.string s, .agg #[.int .i64 ma, .int .i64 mb, .int .i64 mc, .int .i64 md, .int .i64 mx, .int .i64 my]] W fun e w' => e = .returned (.string u2) ∧ Below W.heap.size W w'))) := by
  cases q : matOk ma mb mc md mx my
  · left
    have rr := fun W => rightmatrix_any ma mb mc md mx my W hma hmb hmc hmd hmx hmy
    have xx := fun W => refmatrix_any ma mb mc md mx my W
    rw [q] at rr xx
    exact ⟨Lib.hid fun W => putmatrix_bad s f ma mb mc md mx my W hma hmb hmc hmd hmx hmy q, Lib.hid xx, Lib.hid rr⟩
  · right
    have rr := fun W => rightmatrix_any ma mb mc md mx my W hma hmb hmc hmd hmx hmy
    have xx := fun W => refmatrix_any ma mb mc md mx my W
    rw [q] at rr xx
    exact ⟨s ++ bs (F.bys (matF ma mb mc md mx my)), Lib.hid fun W => putmatrix_ok s f ma mb mc md mx my W hs q, Lib.hid xx, Lib.hid rr, Lib.hid fun W => refputmatrix_ok s ma mb mc md mx my W hs q⟩
theorem puts3 (s : ByteArray) (f c0 c1 c2 c3 d0 d1 d2 d3 : Int) (hs : s.size ≤ 1000000) (hc0 : I64 c0) (hc1 : I64 c1) (hc2 : I64 c2) (hc3 : I64 c3) (hd0 : I64 d0) (hd1 : I64 d1) (hd2 : I64 d2) (hd3 : I64 d3) :
    ((Hid (∀ W, Calls Try.prog 11 #[.agg #[.string s, .int .i64 f], .agg #[.int .i64 c0, .int .i64 c1, .int .i64 c2, .int .i64 c3, .int .i64 d0, .int .i64 d1, .int .i64 d2, .int .i64 d3]] W fun e w' => e = .returned (.tuple #[.agg #[.string ⟨#[]⟩, .int .i64 0], .int .i64 1]) ∧ Below W.heap.size W w')) ∧ (Hid (∀ W, Calls Try.prog 15 #[.agg #[.int .i64 c0, .int .i64 c1, .int .i64 c2, .int .i64 c3, .int .i64 d0, .int .i64 d1, .int .i64 d2, .int .i64 d3]] W fun e w' => e = .returned (.bool false) ∧ Below W.heap.size W w')) ∧ (Hid (∀ W, Calls Try.prog 19 #[.agg #[.int .i64 c0, .int .i64 c1, .int .i64 c2, .int .i64 c3, .int .i64 d0, .int .i64 d1, .int .i64 d2, .int .i64 d3]] W fun e w' => e = .returned (.bool false) ∧ Below W.heap.size W w'))) ∨
    (∃ u3 : ByteArray, (Hid (∀ W, Calls Try.prog 11 #[.agg #[.string s, .int .i64 f], .agg #[.int .i64 c0, .int .i64 c1, .int .i64 c2, .int .i64 c3, .int .i64 d0, .int .i64 d1, .int .i64 d2, .int .i64 d3]] W fun e w' => e = .returned (.tuple #[.agg #[.string u3, .int .i64 0], .int .i64 0]) ∧ Below W.heap.size W w')) ∧ (Hid (∀ W, Calls Try.prog 15 #[.agg #[.int .i64 c0, .int .i64 c1, .int .i64 c2, .int .i64 c3, .int .i64 d0, .int .i64 d1, .int .i64 d2, .int .i64 d3]] W fun e w' => e = .returned (.bool true) ∧ Below W.heap.size W w')) ∧ (Hid (∀ W, Calls Try.prog 19 #[.agg #[.int .i64 c0, .int .i64 c1, .int .i64 c2, .int .i64 c3, .int .i64 d0, .int .i64 d1, .int .i64 d2, .int .i64 d3]] W fun e w' => e = .returned (.bool true) ∧ Below W.heap.size W w')) ∧ (Hid (∀ W, Calls Try.prog 24 #[.string s, .agg #[.int .i64 c0, .int .i64 c1, .int .i64 c2, .int .i64 c3, .int .i64 d0, .int .i64 d1, .int .i64 d2, .int .i64 d3]] W fun e w' => e = .returned (.string u3) ∧ Below W.heap.size W w'))) := by
  cases q : cxOk [c0, c1, c2, c3] [d0, d1, d2, d3]
  · left
    have rr := fun W => rightcx_any c0 c1 c2 c3 d0 d1 d2 d3 W hc0 hc1 hc2 hc3 hd0 hd1 hd2 hd3
    have xx := fun W => refcx_any [c0, c1, c2, c3] [d0, d1, d2, d3] W rfl rfl
    rw [q] at rr xx
    exact ⟨Lib.hid fun W => putcx_bad s f c0 c1 c2 c3 d0 d1 d2 d3 W hc0 hc1 hc2 hc3 hd0 hd1 hd2 hd3 q, Lib.hid xx, Lib.hid rr⟩
  · right
    have rr := fun W => rightcx_any c0 c1 c2 c3 d0 d1 d2 d3 W hc0 hc1 hc2 hc3 hd0 hd1 hd2 hd3
    have xx := fun W => refcx_any [c0, c1, c2, c3] [d0, d1, d2, d3] W rfl rfl
    rw [q] at rr xx
    exact ⟨s ++ bs (F.bys (cxF [c0, c1, c2, c3] [d0, d1, d2, d3])), Lib.hid fun W => putcx_ok s f c0 c1 c2 c3 d0 d1 d2 d3 W hs q, Lib.hid xx, Lib.hid rr, Lib.hid fun W => refputcx_ok s [c0, c1, c2, c3] [d0, d1, d2, d3] W hs rfl rfl q⟩
theorem puts4 (s : ByteArray) (f k0 k1 k2 k3 : Int) (hs : s.size ≤ 1000000) (hk0 : I64 k0) (hk1 : I64 k1) (hk2 : I64 k2) (hk3 : I64 k3) :
    ((Hid (∀ W, Calls Try.prog 12 #[.agg #[.string s, .int .i64 f], .agg #[.int .i64 k0, .int .i64 k1, .int .i64 k2, .int .i64 k3]] W fun e w' => e = .returned (.tuple #[.agg #[.string ⟨#[]⟩, .int .i64 0], .int .i64 1]) ∧ Below W.heap.size W w')) ∧ (Hid (∀ W, Calls Try.prog 16 #[.agg #[.int .i64 k0, .int .i64 k1, .int .i64 k2, .int .i64 k3]] W fun e w' => e = .returned (.bool false) ∧ Below W.heap.size W w')) ∧ (Hid (∀ W, Calls Try.prog 20 #[.agg #[.int .i64 k0, .int .i64 k1, .int .i64 k2, .int .i64 k3]] W fun e w' => e = .returned (.bool false) ∧ Below W.heap.size W w'))) ∨
    (∃ u4 : ByteArray, (Hid (∀ W, Calls Try.prog 12 #[.agg #[.string s, .int .i64 f], .agg #[.int .i64 k0, .int .i64 k1, .int .i64 k2, .int .i64 k3]] W fun e w' => e = .returned (.tuple #[.agg #[.string u4, .int .i64 0], .int .i64 0]) ∧ Below W.heap.size W w')) ∧ (Hid (∀ W, Calls Try.prog 16 #[.agg #[.int .i64 k0, .int .i64 k1, .int .i64 k2, .int .i64 k3]] W fun e w' => e = .returned (.bool true) ∧ Below W.heap.size W w')) ∧ (Hid (∀ W, Calls Try.prog 20 #[.agg #[.int .i64 k0, .int .i64 k1, .int .i64 k2, .int .i64 k3]] W fun e w' => e = .returned (.bool true) ∧ Below W.heap.size W w')) ∧ (Hid (∀ W, Calls Try.prog 25 #[.string s, .agg #[.int .i64 k0, .int .i64 k1, .int .i64 k2, .int .i64 k3]] W fun e w' => e = .returned (.string u4) ∧ Below W.heap.size W w'))) := by
  cases q : rgbaOk k0 k1 k2 k3
  · left
    have rr := fun W => rightrgba_any k0 k1 k2 k3 W hk0 hk1 hk2 hk3
    have xx := fun W => refrgba_any k0 k1 k2 k3 W hk0 hk1 hk2 hk3
    rw [q] at rr xx
    exact ⟨Lib.hid fun W => putrgba_bad s f k0 k1 k2 k3 W hk0 hk1 hk2 hk3 q, Lib.hid xx, Lib.hid rr⟩
  · right
    have rr := fun W => rightrgba_any k0 k1 k2 k3 W hk0 hk1 hk2 hk3
    have xx := fun W => refrgba_any k0 k1 k2 k3 W hk0 hk1 hk2 hk3
    rw [q] at rr xx
    exact ⟨s ++ bs (by4 k0 k1 k2 k3), Lib.hid fun W => putrgba_ok s f k0 k1 k2 k3 W hs q, Lib.hid xx, Lib.hid rr, Lib.hid fun W => refputrgba_ok s k0 k1 k2 k3 W hs q⟩
theorem fieldPuts_walk (s : ByteArray) (f l r t b ma mb mc md mx my c0 c1 c2 c3 d0 d1 d2 d3 k0 k1 k2 k3 : Int) (w : World) (hl : I64 l) (hr : I64 r) (ht : I64 t) (hb : I64 b) (hma : I64 ma) (hmb : I64 mb) (hmc : I64 mc) (hmd : I64 md) (hmx : I64 mx) (hmy : I64 my) (hc0 : I64 c0) (hc1 : I64 c1) (hc2 : I64 c2) (hc3 : I64 c3) (hd0 : I64 d0) (hd1 : I64 d1) (hd2 : I64 d2) (hd3 : I64 d3) (hk0 : I64 k0) (hk1 : I64 k1) (hk2 : I64 k2) (hk3 : I64 k3) :
    Calls Try.prog 3 #[.agg #[.string s, .int .i64 f], .agg #[.int .i64 l, .int .i64 r, .int .i64 t, .int .i64 b], .agg #[.int .i64 ma, .int .i64 mb, .int .i64 mc, .int .i64 md, .int .i64 mx, .int .i64 my], .agg #[.int .i64 c0, .int .i64 c1, .int .i64 c2, .int .i64 c3, .int .i64 d0, .int .i64 d1, .int .i64 d2, .int .i64 d3], .agg #[.int .i64 k0, .int .i64 k1, .int .i64 k2, .int .i64 k3]] w fun e w' => e = .returned (.bool true) ∧ Below w.heap.size w w' := by
  by_cases hs : s.size ≤ 1024
  · rcases puts1 s f l r t b (by omega) hl hr ht hb with ⟨P1, X1, Y1⟩ | ⟨u1, P1, X1, Y1, R1⟩ <;> rcases puts2 s f ma mb mc md mx my (by omega) hma hmb hmc hmd hmx hmy with ⟨P2, X2, Y2⟩ | ⟨u2, P2, X2, Y2, R2⟩ <;> rcases puts3 s f c0 c1 c2 c3 d0 d1 d2 d3 (by omega) hc0 hc1 hc2 hc3 hd0 hd1 hd2 hd3 with ⟨P3, X3, Y3⟩ | ⟨u3, P3, X3, Y3, R3⟩ <;> rcases puts4 s f k0 k1 k2 k3 (by omega) hk0 hk1 hk2 hk3 with ⟨P4, X4, Y4⟩ | ⟨u4, P4, X4, Y4, R4⟩
    · exact fputs_0000 f l r t b ma mb mc md mx my c0 c1 c2 c3 d0 d1 d2 d3 k0 k1 k2 k3 s w hs P1 X1 Y1 P2 X2 Y2 P3 X3 Y3 P4 X4 Y4
    · exact fputs_0001 f l r t b ma mb mc md mx my c0 c1 c2 c3 d0 d1 d2 d3 k0 k1 k2 k3 s u4 w hs P1 X1 Y1 P2 X2 Y2 P3 X3 Y3 P4 X4 Y4 R4
    · exact fputs_0010 f l r t b ma mb mc md mx my c0 c1 c2 c3 d0 d1 d2 d3 k0 k1 k2 k3 s u3 w hs P1 X1 Y1 P2 X2 Y2 P3 X3 Y3 R3 P4 X4 Y4
    · exact fputs_0011 f l r t b ma mb mc md mx my c0 c1 c2 c3 d0 d1 d2 d3 k0 k1 k2 k3 s u3 u4 w hs P1 X1 Y1 P2 X2 Y2 P3 X3 Y3 R3 P4 X4 Y4 R4
    · exact fputs_0100 f l r t b ma mb mc md mx my c0 c1 c2 c3 d0 d1 d2 d3 k0 k1 k2 k3 s u2 w hs P1 X1 Y1 P2 X2 Y2 R2 P3 X3 Y3 P4 X4 Y4
    · exact fputs_0101 f l r t b ma mb mc md mx my c0 c1 c2 c3 d0 d1 d2 d3 k0 k1 k2 k3 s u2 u4 w hs P1 X1 Y1 P2 X2 Y2 R2 P3 X3 Y3 P4 X4 Y4 R4
    · exact fputs_0110 f l r t b ma mb mc md mx my c0 c1 c2 c3 d0 d1 d2 d3 k0 k1 k2 k3 s u2 u3 w hs P1 X1 Y1 P2 X2 Y2 R2 P3 X3 Y3 R3 P4 X4 Y4
    · exact fputs_0111 f l r t b ma mb mc md mx my c0 c1 c2 c3 d0 d1 d2 d3 k0 k1 k2 k3 s u2 u3 u4 w hs P1 X1 Y1 P2 X2 Y2 R2 P3 X3 Y3 R3 P4 X4 Y4 R4
    · exact fputs_1000 f l r t b ma mb mc md mx my c0 c1 c2 c3 d0 d1 d2 d3 k0 k1 k2 k3 s u1 w hs P1 X1 Y1 R1 P2 X2 Y2 P3 X3 Y3 P4 X4 Y4
    · exact fputs_1001 f l r t b ma mb mc md mx my c0 c1 c2 c3 d0 d1 d2 d3 k0 k1 k2 k3 s u1 u4 w hs P1 X1 Y1 R1 P2 X2 Y2 P3 X3 Y3 P4 X4 Y4 R4
    · exact fputs_1010 f l r t b ma mb mc md mx my c0 c1 c2 c3 d0 d1 d2 d3 k0 k1 k2 k3 s u1 u3 w hs P1 X1 Y1 R1 P2 X2 Y2 P3 X3 Y3 R3 P4 X4 Y4
    · exact fputs_1011 f l r t b ma mb mc md mx my c0 c1 c2 c3 d0 d1 d2 d3 k0 k1 k2 k3 s u1 u3 u4 w hs P1 X1 Y1 R1 P2 X2 Y2 P3 X3 Y3 R3 P4 X4 Y4 R4
    · exact fputs_1100 f l r t b ma mb mc md mx my c0 c1 c2 c3 d0 d1 d2 d3 k0 k1 k2 k3 s u1 u2 w hs P1 X1 Y1 R1 P2 X2 Y2 R2 P3 X3 Y3 P4 X4 Y4
    · exact fputs_1101 f l r t b ma mb mc md mx my c0 c1 c2 c3 d0 d1 d2 d3 k0 k1 k2 k3 s u1 u2 u4 w hs P1 X1 Y1 R1 P2 X2 Y2 R2 P3 X3 Y3 P4 X4 Y4 R4
    · exact fputs_1110 f l r t b ma mb mc md mx my c0 c1 c2 c3 d0 d1 d2 d3 k0 k1 k2 k3 s u1 u2 u3 w hs P1 X1 Y1 R1 P2 X2 Y2 R2 P3 X3 Y3 R3 P4 X4 Y4
    · exact fputs_1111 f l r t b ma mb mc md mx my c0 c1 c2 c3 d0 d1 d2 d3 k0 k1 k2 k3 s u1 u2 u3 u4 w hs P1 X1 Y1 R1 P2 X2 Y2 R2 P3 X3 Y3 R3 P4 X4 Y4 R4
  · exact fputs_big f l r t b ma mb mc md mx my c0 c1 c2 c3 d0 d1 d2 d3 k0 k1 k2 k3 s w (by omega)
end Go.Proofs.Ytfaipbdkkkhacaa
