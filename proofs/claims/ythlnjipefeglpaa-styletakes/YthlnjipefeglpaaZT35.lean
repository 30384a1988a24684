import Derived.Test.YthlnjipefeglpaaZT34
import Derived.Test.YthlnjipefeglpaaZT8
import Derived.Test.YthlnjipefeglpaaZT9
import Derived.Test.YthlnjipefeglpaaZT19
namespace Go.Proofs.Ythlnjipefeglpaa
open Go.RowKit
set_option linter.unusedVariables false
theorem OwnC.one {w : World} {B : Nat} {e : TypeId} {k : Nat} {v : Value} {css : List (List Value)} (h : OwnC w B e k v css) : v.oneCell' = true := by
  rcases h.1.2 with ⟨rfl, _⟩ | ⟨g, cap, cur, rfl, _⟩ <;> rfl
theorem OwnC.slice {w : World} {B : Nat} {e : TypeId} {k : Nat} {v : Value} {css : List (List Value)} (h : OwnC w B e k v css) : ∃ a c, v = .slice a css.length c := by
  rcases h.1.2 with ⟨rfl, h0⟩ | ⟨g, cap, cur, rfl, _⟩
  · exact ⟨none, 0, by rw [h0]⟩
  · exact ⟨_, cap, rfl⟩
theorem OwnC.gone {w w' : World} {B q : Nat} {e : TypeId} {k : Nat} {v : Value} {css : List (List Value)} (h : OwnC w B e k v css) (hb : But q q w w') (hq : ∀ g, v.ownBlock = some g → g ≠ q) : OwnC w' B e k v css :=
  h.same fun g hg => hb.block g (h.lt hg).2 (hq g hg) (hq g hg)
theorem Turned.gone {w w' : World} {q : Nat} (h : Turned q w w') : But q q w w' := ⟨h.os, h.tape, h.output, Nat.le_of_eq h.size.symm, fun k _ h1 _ => h.block k h1⟩
def OwnM (w : World) (B M : Nat) (e : TypeId) (v : Value) (xs : List (List Int)) : Prop := OwnP w B e v xs ∧ ∀ g, v.ownBlock = some g → g < M
section
variable {w w' : World} {B M q : Nat} {e : TypeId} {v : Value} {xs : List (List Int)}
theorem OwnP.m (h : OwnP w B e v xs) : OwnM w B w.heap.size e v xs := ⟨h, fun g hg => (h.1.lt hg).2⟩
theorem OwnM.keep (h : OwnM w B M e v xs) (hb : Below w.heap.size w w') : OwnM w' B M e v xs := ⟨h.1.keep hb, h.2⟩
theorem OwnM.but (h : OwnM w B M e v xs) (hb : But q q w w') (hq : q < B ∨ M ≤ q) : OwnM w' B M e v xs :=
  ⟨⟨h.1.1.gone hb fun g hg => by have := (h.1.1.lt hg).1; have := h.2 g hg; omega, h.1.2⟩, h.2⟩
theorem OwnM.turned (h : OwnM w B M e v xs) (hb : Turned q w w') (hq : q < B ∨ M ≤ q) : OwnM w' B M e v xs := h.but hb.gone hq
end
def OwnFM (w : World) (B M : Nat) (v : Value) (Fs : List FV) : Prop :=
  ∃ svs : List Value, svs.length = Fs.length ∧ OwnC w B 28 14 v (List.zipWith fillC Fs svs) ∧ (∀ g, v.ownBlock = some g → g < M) ∧
    ∀ i (h1 : i < Fs.length) (h2 : i < svs.length), Fs[i].Fit ∧ OwnP w B 65 svs[i] Fs[i].st ∧ ∀ g, svs[i].ownBlock = some g → v.ownBlock ≠ some g ∧ g < M
section
variable {w w' : World} {B M q : Nat} {v : Value} {Fs : List FV}
theorem OwnF.m (h : OwnF w B v Fs) : OwnFM w B w.heap.size v Fs := by
  obtain ⟨svs, h1, h2, h3⟩ := h
  exact ⟨svs, h1, h2, fun g hg => (h2.lt hg).2, fun i g1 g2 => ⟨(h3 i g1 g2).1, (h3 i g1 g2).2.1, fun g hg => ⟨(h3 i g1 g2).2.2 g hg, ((h3 i g1 g2).2.1.1.lt hg).2⟩⟩⟩
theorem OwnFM.f (h : OwnFM w B M v Fs) : OwnF w B v Fs := by
  obtain ⟨svs, h1, h2, _, h3⟩ := h
  exact ⟨svs, h1, h2, fun i g1 g2 => ⟨(h3 i g1 g2).1, (h3 i g1 g2).2.1, fun g hg => ((h3 i g1 g2).2.2 g hg).1⟩⟩
theorem OwnFM.keep (h : OwnFM w B M v Fs) (hb : Below w.heap.size w w') : OwnFM w' B M v Fs := by
  obtain ⟨svs, h1, h2, h4, h3⟩ := h
  exact ⟨svs, h1, h2.keep hb, h4, fun i g1 g2 => ⟨(h3 i g1 g2).1, (h3 i g1 g2).2.1.keep hb, (h3 i g1 g2).2.2⟩⟩
theorem OwnFM.but (h : OwnFM w B M v Fs) (hb : But q q w w') (hq : q < B ∨ M ≤ q) : OwnFM w' B M v Fs := by
  obtain ⟨svs, h1, h2, h4, h3⟩ := h
  refine ⟨svs, h1, h2.gone hb fun g hg => ?_, h4, fun i g1 g2 => ⟨(h3 i g1 g2).1, ⟨(h3 i g1 g2).2.1.1.gone hb fun g hg => ?_, (h3 i g1 g2).2.1.2⟩, (h3 i g1 g2).2.2⟩⟩
  · have := (h2.lt hg).1; have := h4 g hg; omega
  · have := ((h3 i g1 g2).2.1.1.lt hg).1; have := ((h3 i g1 g2).2.2 g hg).2; omega
theorem OwnFM.turned (h : OwnFM w B M v Fs) (hb : Turned q w w') (hq : q < B ∨ M ≤ q) : OwnFM w' B M v Fs := h.but hb.gone hq
end
structure SzM (w : World) (B M : Nat) : Prop where
  le : M ≤ w.heap.size
theorem SzM.keep {w w' : World} {B M : Nat} (h : SzM w B M) (hb : Below w.heap.size w w') : SzM w' B M := ⟨Nat.le_trans h.le hb.size⟩
theorem SzM.turned {w w' : World} {B M q : Nat} (h : SzM w B M) (hb : Turned q w w') (_ : q < B ∨ M ≤ q) : SzM w' B M := ⟨by rw [hb.size]; exact h.le⟩
theorem SzM.but {w w' : World} {B M q : Nat} (h : SzM w B M) (hb : But q q w w') (_ : q < B ∨ M ≤ q) : SzM w' B M := ⟨Nat.le_trans h.le hb.size⟩
theorem OwnP.last {w : World} {B : Nat} {e : TypeId} {v : Value} {xs : List (List Int)} (h : OwnP w B e v xs) (p : Nat) (hp : xs.length = p + 1) : ∃ g c, v = .slice (some ⟨g, 0, none⟩) (p + 1) c ∧ w.cell? ⟨g, 0 + p * 5, none⟩ = some (.int .i64 (lastR 0 xs)) := by
  rcases h.1.1.2 with ⟨rfl, h0⟩ | ⟨g, cap, cur, rfl, hB, hg, hn, hm, hs, ht⟩
  · rw [List.length_map] at h0; omega
  · have hl : (xs.map iL).length = p + 1 := by simp [hp]
    refine ⟨g, cap, by rw [hl], ?_⟩
    rw [cell_of_row w g _ cur e (0, 0) hg]
    have hi : p < (xs.map iL).length := by omega
    have e1 := flat_at 5 (xs.map iL) h.1.2 p hi 0 (by decide)
    rw [← ht, List.getElem?_take_of_lt (by omega), Array.getElem?_toList] at e1
    rw [show 0 + p * 5 = p * 5 + 0 by omega, e1]
    have e2 : lastR 0 xs = (xs[p]'(by omega)).getD 0 0 := by
      unfold lastR
      rw [List.getLast?_eq_getElem?, show xs.length - 1 = p by omega, List.getElem?_eq_getElem (by omega)]
      rfl
    have hx5 := (h.2 _ (List.getElem_mem (show p < xs.length by omega))).1
    obtain ⟨a, b, c, d, f, hf⟩ := list5 _ hx5
    rw [e2, hf]
    simp [hf, iL]
end Go.Proofs.Ythlnjipefeglpaa
namespace Go.Proofs.Ythlnjipefeglpaa
open Go.RowKit
set_option linter.unusedVariables false
theorem Tk.lt {w : World} {b : Nat} {x : RS} (h : Tk w b x) : b < w.heap.size := Blk.lt h
theorem Turned.tk {w w' : World} {b g : Nat} {x : RS} (h : Turned g w w') (hB : Tk w b x) (hn : b ≠ g) : Tk w' b x := h.blk hB hn
end Go.Proofs.Ythlnjipefeglpaa
namespace Go.Proofs.Ythlnjipefeglpaa
open Go.RowKit
set_option linter.unusedVariables false
theorem size3_00 : (Try.prog.info? 3).map (·.size) = some 1 := by kernel_rfl
set_option maxHeartbeats 2000000 in
theorem takematrix_00 (s zs : ByteArray) (a mX mY e0 e1 e2 e3 e4 e5 za ze : Int) (x0 x1 x3 x5 : RS) (q : Bool) (w : World)
    (H1 : Hid (∀ W bt, Tk W bt x0 → Calls Try.prog 78 #[.pointer (some ⟨bt, 0, none⟩)] W fun e w' => e = .returned (.bool false) ∧ Tk w' bt x1 ∧ But bt bt W w'))
    (H2 : Hid (∀ W bt, Tk W bt x1 → Calls Try.prog 78 #[.pointer (some ⟨bt, 0, none⟩)] W fun e w' => e = .returned (.bool false) ∧ Tk w' bt x3 ∧ But bt bt W w'))
    (P3 : Hid (∀ W bt, Tk W bt x3 → Calls Try.prog 79 #[.pointer (some ⟨bt, 0, none⟩)] W fun e w' => e = .returned (.tuple #[.int .i64 mX, .int .i64 mY]) ∧ Tk w' bt x5 ∧ But bt bt W w'))
    (HG : Hid (∀ W, Calls Try.prog 77 #[.agg #[.string s, .int .i64 a]] W fun e w' => ∃ b, e = .returned (.pointer (some ⟨b, 0, none⟩)) ∧ Tk w' b x0 ∧ W.heap.size ≤ b ∧ Below W.heap.size W w'))
    (HR : Hid (∀ W, Calls Try.prog 25 #[.agg #[.int .i64 65536, .int .i64 0, .int .i64 0, .int .i64 65536, .int .i64 mX, .int .i64 mY]] W fun e w' => e = .returned (.bool q) ∧ Below W.heap.size W w'))
    (HE : Hid (∀ W bt, Tk W bt x5 → Calls Try.prog 80 #[.pointer (some ⟨bt, 0, none⟩), .agg #[.int .i64 65536, .int .i64 0, .int .i64 0, .int .i64 65536, .int .i64 mX, .int .i64 mY], .bool q] W fun e w' => e = .returned (.tuple #[.agg #[.int .i64 e0, .int .i64 e1, .int .i64 e2, .int .i64 e3, .int .i64 e4, .int .i64 e5], .agg #[.string zs, .int .i64 za], .int .i64 ze]) ∧ Below W.heap.size W w')) :
    Calls Try.prog 60 #[.agg #[.string s, .int .i64 a]] w fun e w' => e = .returned (.tuple #[.agg (iA [e0, e1, e2, e3, e4, e5]), .agg #[.string zs, .int .i64 za], .int .i64 ze]) ∧ Below w.heap.size w w' := by
  go_enter Try.func60, Try.ntmps60
  go_wp2_with (first
    | (refine wl_box 46 _ _ rfl rfl (show _ = Value.agg #[.string s, .int .i64 a] from rfl) ?_; intro W1 br Br_1 l1 k1; have gr : w.heap.size ≤ br := l1; have Hw1 := k1; clear l1 k1)
    | (refine wl_alloc 25 _ zero27e rfl rfl ?_; intro W2 ba Ba_2 l2 k2; have ga : w.heap.size ≤ ba := Nat.le_trans Hw1.size l2; have nra : br ≠ ba := Nat.ne_of_lt (Nat.lt_of_lt_of_le Br_1.lt l2); have Br_2 := Br_1.keep k2; have Hw2 := bq_trans Hw1 k2; clear l2 k2 Br_1 Hw1)
    | (refine wl_alloc 46 _ zero51 rfl rfl ?_; intro W3 bo Bo_3 l3 k3; have go : w.heap.size ≤ bo := Nat.le_trans Hw2.size l3; have nro : br ≠ bo := Nat.ne_of_lt (Nat.lt_of_lt_of_le Br_2.lt l3); have nao : ba ≠ bo := Nat.ne_of_lt (Nat.lt_of_lt_of_le Ba_2.lt l3); have Br_3 := Br_2.keep k3; have Ba_3 := Ba_2.keep k3; have Hw3 := bq_trans Hw2 k3; clear l3 k3 Br_2 Ba_2 Hw2)
    | (refine wl_load 46 2 _ Try.underlying46 rfl size51 _ rfl rfl _ rfl _ _ Br_3 rfl ?_)
    | (go_at_call 77; (with_reducible refine (HG.out _).mono ?_); rintro e W4 ⟨bt, rfl, Bt_4, l4, k4⟩; have gt : w.heap.size ≤ bt := Nat.le_trans Hw3.size l4; have nrt : br ≠ bt := Nat.ne_of_lt (Nat.lt_of_lt_of_le Br_3.lt l4); have nat : ba ≠ bt := Nat.ne_of_lt (Nat.lt_of_lt_of_le Ba_3.lt l4); have not : bo ≠ bt := Nat.ne_of_lt (Nat.lt_of_lt_of_le Bo_3.lt l4); have Br_4 := Br_3.keep k4; have Ba_4 := Ba_3.keep k4; have Bo_4 := Bo_3.keep k4; have Hw4 := bq_trans Hw3 k4; clear l4 k4 Br_3 Ba_3 Bo_3 Hw3)
    | (go_at_call 66; (with_reducible refine (same_any _).mono ?_); rintro e W5 ⟨rfl, k5⟩; have Br_5 := Br_4.keep k5; have Ba_5 := Ba_4.keep k5; have Bo_5 := Bo_4.keep k5; have Bt_5 := Bt_4.keep k5; have Hw5 := bq_trans Hw4 k5; clear k5 Br_4 Ba_4 Bo_4 Bt_4 Hw4)
    | (refine wl_alloc 25 _ zero27e rfl rfl ?_; intro W6 bc Bc_6 l6 k6; have gc : w.heap.size ≤ bc := Nat.le_trans Hw5.size l6; have nrc : br ≠ bc := Nat.ne_of_lt (Nat.lt_of_lt_of_le Br_5.lt l6); have nac : ba ≠ bc := Nat.ne_of_lt (Nat.lt_of_lt_of_le Ba_5.lt l6); have noc : bo ≠ bc := Nat.ne_of_lt (Nat.lt_of_lt_of_le Bo_5.lt l6); have ntc : bt ≠ bc := Nat.ne_of_lt (Nat.lt_of_lt_of_le Bt_5.lt l6); have Br_6 := Br_5.keep k6; have Ba_6 := Ba_5.keep k6; have Bo_6 := Bo_5.keep k6; have Bt_6 := Bt_5.keep k6; have Hw6 := bq_trans Hw5 k6; clear l6 k6 Br_5 Ba_5 Bo_5 Bt_5 Hw5)
    | (refine wl_store 25 6 size27e _ _ rfl rfl _ rfl #[.int .i64 65536, .int .i64 0, .int .i64 0, .int .i64 65536, .int .i64 0, .int .i64 0] rfl _ _ Bc_6 rfl rfl (by kernel_rfl) ?_; intro W7 Bc_7 T7; have Br_7 := T7.blk Br_6 nrc; have Ba_7 := T7.blk Ba_6 nac; have Bo_7 := T7.blk Bo_6 noc; have Bt_7 := T7.tk Bt_6 ntc; have Hw7 := T7.below Hw6 gc; clear T7 Br_6 Ba_6 Bo_6 Bt_6 Bc_6 Hw6)
    | (go_at_call 78; (with_reducible refine (H1.out _ _ Bt_7).mono ?_); rintro e W8 ⟨rfl, Bt_8, k8⟩; have Br_8 := Br_7.but k8 nrt nrt; have Ba_8 := Ba_7.but k8 nat nat; have Bo_8 := Bo_7.but k8 not not; have Bc_8 := Bc_7.but k8 (Ne.symm ntc) (Ne.symm ntc); have Hw8 := k8.below Hw7 gt gt; clear k8 Br_7 Ba_7 Bo_7 Bc_7 Bt_7 Hw7)
    | (go_at_call 78; (with_reducible refine (H2.out _ _ Bt_8).mono ?_); rintro e W9 ⟨rfl, Bt_9, k9⟩; have Br_9 := Br_8.but k9 nrt nrt; have Ba_9 := Ba_8.but k9 nat nat; have Bo_9 := Bo_8.but k9 not not; have Bc_9 := Bc_8.but k9 (Ne.symm ntc) (Ne.symm ntc); have Hw9 := k9.below Hw8 gt gt; clear k9 Br_8 Ba_8 Bo_8 Bc_8 Bt_8 Hw8)
    | (go_at_call 79; (with_reducible refine (P3.out _ _ Bt_9).mono ?_); rintro e W10 ⟨rfl, Bt_10, k10⟩; have Br_10 := Br_9.but k10 nrt nrt; have Ba_10 := Ba_9.but k10 nat nat; have Bo_10 := Bo_9.but k10 not not; have Bc_10 := Bc_9.but k10 (Ne.symm ntc) (Ne.symm ntc); have Hw10 := k10.below Hw9 gt gt; clear k10 Br_9 Ba_9 Bo_9 Bc_9 Bt_9 Hw9)
    | (refine wl_set 3 _ _ rfl rfl bc 4 rfl (.int .i64 mX) rfl rfl size3_00 _ _ Bc_10 (by decide : 4 < 6) ?_; intro W11 Bc_11 T11; have Br_11 := T11.blk Br_10 nrc; have Ba_11 := T11.blk Ba_10 nac; have Bo_11 := T11.blk Bo_10 noc; have Bt_11 := T11.tk Bt_10 ntc; have Hw11 := T11.below Hw10 gc; clear T11 Br_10 Ba_10 Bo_10 Bt_10 Bc_10 Hw10)
    | (refine wl_set 3 _ _ rfl rfl bc 5 rfl (.int .i64 mY) rfl rfl size3_00 _ _ Bc_11 (by decide : 5 < 6) ?_; intro W12 Bc_12 T12; have Br_12 := T12.blk Br_11 nrc; have Ba_12 := T12.blk Ba_11 nac; have Bo_12 := T12.blk Bo_11 noc; have Bt_12 := T12.tk Bt_11 ntc; have Hw12 := T12.below Hw11 gc; clear T12 Br_11 Ba_11 Bo_11 Bt_11 Bc_11 Hw11))
  have BA := Lib.hid Ba_12
  have BO := Lib.hid Bo_12
  have HB := Lib.hid Hw12
  have noa := Ne.symm nao
  have ne1 : ¬ ba = bo := nao
  have ne2 : ¬ bo = ba := noa
  have HC : Hid (∀ w', But ba bo W12 w' → w'.cell? ⟨bc, 0, none⟩ = some (.int .i64 65536) ∧ w'.cell? ⟨bc, 1, none⟩ = some (.int .i64 0) ∧ w'.cell? ⟨bc, 2, none⟩ = some (.int .i64 0) ∧ w'.cell? ⟨bc, 3, none⟩ = some (.int .i64 65536) ∧ w'.cell? ⟨bc, 4, none⟩ = some (.int .i64 mX) ∧ w'.cell? ⟨bc, 5, none⟩ = some (.int .i64 mY)) := Lib.hid fun w' hw' => ⟨(Bc_12.but hw' (Ne.symm nac) (Ne.symm noc)).cell 0, (Bc_12.but hw' (Ne.symm nac) (Ne.symm noc)).cell 1, (Bc_12.but hw' (Ne.symm nac) (Ne.symm noc)).cell 2, (Bc_12.but hw' (Ne.symm nac) (Ne.symm noc)).cell 3, (Bc_12.but hw' (Ne.symm nac) (Ne.symm noc)).cell 4, (Bc_12.but hw' (Ne.symm nac) (Ne.symm noc)).cell 5⟩
  have HE2 : Hid (∀ W, Below W12.heap.size W12 W → Calls Try.prog 80 #[.pointer (some ⟨bt, 0, none⟩), .agg #[.int .i64 65536, .int .i64 0, .int .i64 0, .int .i64 65536, .int .i64 mX, .int .i64 mY], .bool q] W fun e w' => e = .returned (.tuple #[.agg #[.int .i64 e0, .int .i64 e1, .int .i64 e2, .int .i64 e3, .int .i64 e4, .int .i64 e5], .agg #[.string zs, .int .i64 za], .int .i64 ze]) ∧ Below W12.heap.size W12 w') := Lib.hid fun W h => (HE.out W bt (Bt_12.keep h)).mono fun e w' ⟨h1, h2⟩ => ⟨h1, bq_trans h h2⟩
  have HR2 : Hid (∀ W, Below W12.heap.size W12 W → Calls Try.prog 25 #[.agg #[.int .i64 65536, .int .i64 0, .int .i64 0, .int .i64 65536, .int .i64 mX, .int .i64 mY]] W fun e w' => e = .returned (.bool q) ∧ Below W12.heap.size W12 w') := Lib.hid fun W h => (HR.out W).mono fun e w' ⟨h1, h2⟩ => ⟨h1, bq_trans h h2⟩
  have hd0 : Below W12.heap.size W12 W12.drew := bq_drew (bq_refl W12)
  clear HE HR Br_12 Ba_12 Bo_12 Bt_12 Bc_12 Hw12 
  go_region_held3 (fun w' => w'.cell? ⟨bc, 0, none⟩ = some (.int .i64 65536) ∧ w'.cell? ⟨bc, 1, none⟩ = some (.int .i64 0) ∧ w'.cell? ⟨bc, 2, none⟩ = some (.int .i64 0) ∧ w'.cell? ⟨bc, 3, none⟩ = some (.int .i64 65536) ∧ w'.cell? ⟨bc, 4, none⟩ = some (.int .i64 mX) ∧ w'.cell? ⟨bc, 5, none⟩ = some (.int .i64 mY))
    ((refine HC.out _ ?_; repeat' (first | (with_reducible refine But.setp _ _ ?_) | (with_reducible refine But.setq _ _ ?_) | (with_reducible exact But.of (by assumption)) | (with_reducible exact But.of (bq_drew (bq_refl _))))))
    (first
      | (go_at_call 25; refine (HR2.out _ (by first | assumption | exact bq_refl _)).mono ?_; rintro e w9 ⟨rfl, hb9⟩)
      | (go_at_call 80; refine (HE2.out _ (by first | assumption | exact bq_refl _)).mono ?_; rintro e w10 ⟨rfl, hb10⟩; have d0 : w10.cell? ⟨ba, 0, none⟩ = some (.int .i64 0) := (BA.out.keep hb10).cell 0; have f0 := (BA.out.keep hb10).frozen 0; have d1 : w10.cell? ⟨ba, 1, none⟩ = some (.int .i64 0) := (BA.out.keep hb10).cell 1; have f1 := (BA.out.keep hb10).frozen 1; have d2 : w10.cell? ⟨ba, 2, none⟩ = some (.int .i64 0) := (BA.out.keep hb10).cell 2; have f2 := (BA.out.keep hb10).frozen 2; have d3 : w10.cell? ⟨ba, 3, none⟩ = some (.int .i64 0) := (BA.out.keep hb10).cell 3; have f3 := (BA.out.keep hb10).frozen 3; have d4 : w10.cell? ⟨ba, 4, none⟩ = some (.int .i64 0) := (BA.out.keep hb10).cell 4; have f4 := (BA.out.keep hb10).frozen 4; have d5 : w10.cell? ⟨ba, 5, none⟩ = some (.int .i64 0) := (BA.out.keep hb10).cell 5; have f5 := (BA.out.keep hb10).frozen 5; have p0 : w10.cell? ⟨bo, 0, none⟩ = some (.string ⟨#[]⟩) := (BO.out.keep hb10).cell 0; have p1 : w10.cell? ⟨bo, 1, none⟩ = some (.int .i64 0) := (BO.out.keep hb10).cell 1; have q0 := (BO.out.keep hb10).frozen 0; have q1 := (BO.out.keep hb10).frozen 1))
  have R9 : Blk ((((((((w10.setCell ⟨ba, 0, none⟩ (.int .i64 e0)).setCell ⟨ba, 1, none⟩ (.int .i64 e1)).setCell ⟨ba, 2, none⟩ (.int .i64 e2)).setCell ⟨ba, 3, none⟩ (.int .i64 e3)).setCell ⟨ba, 4, none⟩ (.int .i64 e4)).setCell ⟨ba, 5, none⟩ (.int .i64 e5)).setCell ⟨bo, 0, none⟩ (.string zs)).setCell ⟨bo, 1, none⟩ (.int .i64 za)) ba (iA [e0, e1, e2, e3, e4, e5]) 25 := by rw [← sets6]; exact (((((((((BA.out.keep hb10).set 0 _).set 1 _).set 2 _).set 3 _).set 4 _).set 5 _).other _ nao).other _ nao)
  have O9 : Blk ((((((((w10.setCell ⟨ba, 0, none⟩ (.int .i64 e0)).setCell ⟨ba, 1, none⟩ (.int .i64 e1)).setCell ⟨ba, 2, none⟩ (.int .i64 e2)).setCell ⟨ba, 3, none⟩ (.int .i64 e3)).setCell ⟨ba, 4, none⟩ (.int .i64 e4)).setCell ⟨ba, 5, none⟩ (.int .i64 e5)).setCell ⟨bo, 0, none⟩ (.string zs)).setCell ⟨bo, 1, none⟩ (.int .i64 za)) bo #[.string zs, .int .i64 za] 46 := (((((((((BO.out.keep hb10).other _ noa).other _ noa).other _ noa).other _ noa).other _ noa).other _ noa).set 0 _).set 1 _)
  go_wp2
  exact post_cell2_tmp (v := .int .i64 ze) Try.underlying25 rfl size27e Try.underlying46 rfl size51 Try.results60 R9 rfl O9 rfl rfl rfl rfl rfl ⟨rfl, bq_set (bq_set (bq_set (bq_set (bq_set (bq_set (bq_set (bq_set (bq_trans HB.out hb10) _ ga _) _ ga _) _ ga _) _ ga _) _ ga _) _ ga _) _ go _) _ go _⟩
end Go.Proofs.Ythlnjipefeglpaa
