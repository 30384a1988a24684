import Derived.Test.YthlnjipefeglpaaZS15
import Derived.Deep.RegionHeld
import Derived.Test.YthlnjipefeglpaaZS5
import Derived.Deep.MidRow
import Derived.Test.YthlnjipefeglpaaZS14
import Derived.Test.YthlnjipefeglpaaZS6
import Derived.Test.YthlnjipefeglpaaZS7
namespace Go.Proofs.Ythlnjipefeglpaa
open Go.RowKit
set_option linter.unusedVariables false
set_option linter.unusedSimpArgs false
set_option maxRecDepth 100000
theorem zeroFL (w : World) : (zeroValue 28).run Try.prog w = .ok (.agg #[.int .i64 0, .int .i64 0, .int .i64 0, .int .i64 0, .int .i64 0, .int .i64 0, .int .i64 0, .int .i64 0, .int .i64 0, .int .i64 0, .int .i64 0, .int .i64 0, .slice none 0 0, .int .i64 0]) w := Try.zeroValue28 w
theorem zeroSK (w : World) : (zeroValue 30).run Try.prog w = .ok (.agg #[.int .i64 0, .int .i64 0, .int .i64 0, .int .i64 0, .int .i64 0]) w := Try.zeroValue30 w
theorem sizeFL : (Try.prog.info? 28).map (·.size) = some 14 := by kernel_rfl
theorem sizeSK : (Try.prog.info? 30).map (·.size) = some 5 := by kernel_rfl
theorem iL_one (l : List Int) : (iL l).all (·.oneCell') = true := by
  rw [List.all_eq_true]
  intro v hv
  simp only [iL, List.mem_map] at hv
  obtain ⟨z, _, rfl⟩ := hv
  rfl
theorem iLA_one (l : List Int) : (iL l).toArray.all (·.oneCell') = true := by simpa using iL_one l
theorem fillC_one {F : FV} {a : Option Addr} {n c : Nat} : (fillC F (.slice a n c)).toArray.all (·.oneCell') = true := by
  have h1 := iL_one F.c
  have h2 := iL_one F.m
  simp only [fillC, List.all_toArray, List.all_append, h1, h2]
  rfl
theorem slice_one {w : World} {s : Value} {st : List (List Int)} (h : Stops w s st) (F : FV) : (fillC F s).toArray.all (·.oneCell') = true := by
  obtain ⟨a, c, b, o, rfl, _⟩ := h.get
  exact fillC_one
theorem fillA_size {F : FV} (h : F.Fit) (s : Value) : (fillC F s).toArray.size = 14 := by simpa using fillC_len8 h s
theorem iLA_size {l : List Int} (h : l.length = 5) : (iL l).toArray.size = 5 := by simpa [iL_len] using h
set_option maxHeartbeats 4000000 in
theorem rightfills_any (xs : List FV) (v : Value) (w : World) (hx : Fills w v xs) :
    Calls Try.prog 35 #[v, .func (.func 9) #[] #[]] w fun e w' => e = .returned (.bool (decide (xs.length < 16) && xs.all fillOk)) ∧ Below w.heap.size w w' := by
  obtain ⟨pa, pc, pb, po, rfl, la, pget⟩ := hx.get
  have PG := Lib.hid pget
  clear hx pget
  by_cases n8 : xs.length < 16
  rotate_left
  · have e : (decide (xs.length < 16) && xs.all fillOk) = false := by simp [n8]
    have q2 : decide ((15 : Int) < (xs.length : Int)) = true := decide_eq_true (by omega)
    rw [e]
    clear e
    go_enter Try.func35, Try.ntmps35
    go_wp2_with fail
    go_ret
    exact ⟨rfl, bq_refl w⟩
  have q2 : decide ((15 : Int) < (xs.length : Int)) = false := decide_eq_false (by omega)
  have e : (decide (xs.length < 16) && xs.all fillOk) = xs.all fillOk := by rw [decide_eq_true n8]; rfl
  rw [e]
  clear e n8
  go_enter Try.func35, Try.ntmps35
  go_wp2_with fail
  clear q2
  go_loopw [6, 12] (fun _ i wr => RtRel w fillOk xs i wr) (fun _ i _ => xs.length - (intOf i).toNat)
  case atStart => exact ⟨0, by omega, rfl, rfl, bq_refl w⟩
  case round =>
    obtain ⟨k, hk, rfl, hall, hbel⟩ := hrel
    have HA := Lib.hid hall
    have HB := Lib.hid hbel
    clear hall hbel
    by_cases hlt : k < xs.length
    · obtain ⟨rfl, _, cs, _, ⟨hf1, s, rfl, hs1⟩, hrg⟩ := PG.out k hlt
      have rg := rangeAt_keep hrg HB.out
      have hk1 : Stops wr s xs[k].st := Sl.keep num5_lasts hs1 HB.out
      have HC : Hid (∀ W, Below wr.heap.size wr W → Calls Try.prog 9 #[.agg (fillC xs[k] s).toArray] W fun e w' => e = .returned (.bool (fillOk xs[k])) ∧ Below W.heap.size W w') := Lib.hid fun W hW => pfill_any xs[k] s W hf1 (Sl.keep num5_lasts hk1 hW)
      have hsz := size28f hf1 s
      have hn2 := fillA_size hf1 s
      have h1 := slice_one hs1 xs[k]
      clear hf1 hs1 hk1
      have HT := Lib.hid (allT fillOk xs k hlt HA.out)
      have HF := Lib.hid (allF fillOk xs k hlt)
      have i1 : (0 : Int) ≤ (k : Int) := by omega
      have i2 : (k : Int) < (xs.length : Int) := by omega
      clear hrg HA PG
      generalize fillOk xs[k] = q at *
      generalize xs[k] = X at *
      cases q
      · have HL : Hid (xs.all fillOk = false) := Lib.hid (HF.out rfl)
        clear HT HF
        go_wp2_with (first
          | (refine wpList_load_mid rfl 28 _ rfl pb (po + k * 14) rfl (fillC X s) _ rg Try.underlying28 rfl hsz ?_)
          | (refine wl_alloc 28 _ zeroFL rfl rfl ?_; intro W1 bf Bf_1 l1 k1; have gf : wr.heap.size ≤ bf := l1; have Hw1 := k1; clear l1 k1)
          | (refine wl_store 28 14 sizeFL _ _ rfl rfl _ rfl _ rfl _ _ Bf_1 rfl hn2 h1 ?_; intro W2 Bf_2 T2; have Hw2 := T2.below Hw1 gf; clear T2 Bf_1 Hw1)
          | (refine wl_load 28 14 _ Try.underlying28 rfl sizeFL _ rfl rfl _ rfl _ _ Bf_2 hn2 ?_)
          | (go_at_call 9; (with_reducible refine (HC.out _ Hw2).mono ?_); rintro e W3 ⟨rfl, k3⟩; have Bf_3 := Bf_2.keep k3; have Hw3 := bq_trans Hw2 k3; clear k3 Bf_2 Hw2))
        go_ret
        exact ⟨ret_bool HL.out.symm, bq_trans HB.out Hw3⟩
      · have HL := Lib.hid (HT.out rfl)
        clear HT HF
        go_wp2_with (first
          | (refine wpList_load_mid rfl 28 _ rfl pb (po + k * 14) rfl (fillC X s) _ rg Try.underlying28 rfl hsz ?_)
          | (refine wl_alloc 28 _ zeroFL rfl rfl ?_; intro W1 bf Bf_1 l1 k1; have gf : wr.heap.size ≤ bf := l1; have Hw1 := k1; clear l1 k1)
          | (refine wl_store 28 14 sizeFL _ _ rfl rfl _ rfl _ rfl _ _ Bf_1 rfl hn2 h1 ?_; intro W2 Bf_2 T2; have Hw2 := T2.below Hw1 gf; clear T2 Bf_1 Hw1)
          | (refine wl_load 28 14 _ Try.underlying28 rfl sizeFL _ rfl rfl _ rfl _ _ Bf_2 hn2 ?_)
          | (go_at_call 9; (with_reducible refine (HC.out _ Hw2).mono ?_); rintro e W3 ⟨rfl, k3⟩; have Bf_3 := Bf_2.keep k3; have Hw3 := bq_trans Hw2 k3; clear k3 Bf_2 Hw2))
        go_roundw
        case rel => exact ⟨k + 1, by omega, by go_num, HL.out, bq_trans HB.out Hw3⟩
        case measure => simp [intOf]; omega
    · have e : xs.all fillOk = true := by
        have := HA.out
        rw [List.take_of_length_le (by omega)] at this
        exact this
      have HL := Lib.hid e
      clear e HA
      go_wp2_with fail
      go_ret
      exact ⟨ret_bool HL.out.symm, HB.out⟩
set_option maxHeartbeats 4000000 in
theorem rightlines_any (xs : List (List Int)) (v : Value) (w : World) (hx : Strokes w v xs) :
    Calls Try.prog 36 #[v, .func (.func 11) #[] #[]] w fun e w' => e = .returned (.bool (decide (xs.length < 16) && xs.all strokeL)) ∧ Below w.heap.size w w' := by
  obtain ⟨pa, pc, pb, po, rfl, la, pget⟩ := hx.get
  have PG := Lib.hid pget
  clear hx pget
  by_cases n8 : xs.length < 16
  rotate_left
  · have e : (decide (xs.length < 16) && xs.all strokeL) = false := by simp [n8]
    have q2 : decide ((15 : Int) < (xs.length : Int)) = true := decide_eq_true (by omega)
    rw [e]
    clear e
    go_enter Try.func36, Try.ntmps36
    go_wp2_with fail
    go_ret
    exact ⟨rfl, bq_refl w⟩
  have q2 : decide ((15 : Int) < (xs.length : Int)) = false := decide_eq_false (by omega)
  have e : (decide (xs.length < 16) && xs.all strokeL) = xs.all strokeL := by rw [decide_eq_true n8]; rfl
  rw [e]
  clear e n8
  go_enter Try.func36, Try.ntmps36
  go_wp2_with fail
  clear q2
  go_loopw [6, 12] (fun _ i wr => RtRel w strokeL xs i wr) (fun _ i _ => xs.length - (intOf i).toNat)
  case atStart => exact ⟨0, by omega, rfl, rfl, bq_refl w⟩
  case round =>
    obtain ⟨k, hk, rfl, hall, hbel⟩ := hrel
    have HA := Lib.hid hall
    have HB := Lib.hid hbel
    clear hall hbel
    by_cases hlt : k < xs.length
    · obtain ⟨rfl, _, cs, _, ⟨h5, rfl, hb5⟩, hrg⟩ := PG.out k hlt
      have rg := rangeAt_keep hrg HB.out
      have HC : Hid (∀ W, Below wr.heap.size wr W → Calls Try.prog 11 #[.agg (iL xs[k]).toArray] W fun e w' => e = .returned (.bool (strokeL xs[k])) ∧ Below W.heap.size W w') := Lib.hid fun W hW => pstroke_l xs[k] W h5 hb5
      have hsz := size30f h5
      have hn2 := iLA_size h5
      have h1 := iLA_one xs[k]
      clear h5 hb5
      have HT := Lib.hid (allT strokeL xs k hlt HA.out)
      have HF := Lib.hid (allF strokeL xs k hlt)
      have i1 : (0 : Int) ≤ (k : Int) := by omega
      have i2 : (k : Int) < (xs.length : Int) := by omega
      clear hrg HA PG
      generalize strokeL xs[k] = q at *
      generalize xs[k] = X at *
      cases q
      · have HL : Hid (xs.all strokeL = false) := Lib.hid (HF.out rfl)
        clear HT HF
        go_wp2_with (first
          | (refine wpList_load_mid rfl 30 _ rfl pb (po + k * 5) rfl (iL X) _ rg Try.underlying30 rfl hsz ?_)
          | (refine wl_alloc 30 _ zeroSK rfl rfl ?_; intro W1 bf Bf_1 l1 k1; have gf : wr.heap.size ≤ bf := l1; have Hw1 := k1; clear l1 k1)
          | (refine wl_store 30 5 sizeSK _ _ rfl rfl _ rfl _ rfl _ _ Bf_1 rfl hn2 h1 ?_; intro W2 Bf_2 T2; have Hw2 := T2.below Hw1 gf; clear T2 Bf_1 Hw1)
          | (refine wl_load 30 5 _ Try.underlying30 rfl sizeSK _ rfl rfl _ rfl _ _ Bf_2 hn2 ?_)
          | (go_at_call 11; (with_reducible refine (HC.out _ Hw2).mono ?_); rintro e W3 ⟨rfl, k3⟩; have Bf_3 := Bf_2.keep k3; have Hw3 := bq_trans Hw2 k3; clear k3 Bf_2 Hw2))
        go_ret
        exact ⟨ret_bool HL.out.symm, bq_trans HB.out Hw3⟩
      · have HL := Lib.hid (HT.out rfl)
        clear HT HF
        go_wp2_with (first
          | (refine wpList_load_mid rfl 30 _ rfl pb (po + k * 5) rfl (iL X) _ rg Try.underlying30 rfl hsz ?_)
          | (refine wl_alloc 30 _ zeroSK rfl rfl ?_; intro W1 bf Bf_1 l1 k1; have gf : wr.heap.size ≤ bf := l1; have Hw1 := k1; clear l1 k1)
          | (refine wl_store 30 5 sizeSK _ _ rfl rfl _ rfl _ rfl _ _ Bf_1 rfl hn2 h1 ?_; intro W2 Bf_2 T2; have Hw2 := T2.below Hw1 gf; clear T2 Bf_1 Hw1)
          | (refine wl_load 30 5 _ Try.underlying30 rfl sizeSK _ rfl rfl _ rfl _ _ Bf_2 hn2 ?_)
          | (go_at_call 11; (with_reducible refine (HC.out _ Hw2).mono ?_); rintro e W3 ⟨rfl, k3⟩; have Bf_3 := Bf_2.keep k3; have Hw3 := bq_trans Hw2 k3; clear k3 Bf_2 Hw2))
        go_roundw
        case rel => exact ⟨k + 1, by omega, by go_num, HL.out, bq_trans HB.out Hw3⟩
        case measure => simp [intOf]; omega
    · have e : xs.all strokeL = true := by
        have := HA.out
        rw [List.take_of_length_le (by omega)] at this
        exact this
      have HL := Lib.hid e
      clear e HA
      go_wp2_with fail
      go_ret
      exact ⟨ret_bool HL.out.symm, HB.out⟩
theorem listsOk_eq (Fs : List FV) (xs : List (List Int)) : listsOk Fs xs = ((decide (Fs.length < 16) && Fs.all fillOk) && (decide (xs.length < 16) && xs.all strokeL)) := by
  unfold listsOk
  generalize Fs.all fillOk = a
  generalize xs.all strokeL = b
  cases a <;> cases b <;> simp
theorem pright_any (Fs : List FV) (xs : List (List Int)) (fv sv : Value) (w : World) (hf : Fills w fv Fs) (hs : Strokes w sv xs) :
    Calls Try.prog 18 #[fv, sv] w fun e w' => e = .returned (.bool (listsOk Fs xs)) ∧ Below w.heap.size w w' := by
  have H1 := Lib.hid (fun W (hW : Below w.heap.size w W) => rightfills_any Fs fv W (Sl.keep fill_lasts hf hW))
  have H2 := Lib.hid (fun W (hW : Below w.heap.size w W) => rightlines_any xs sv W (Sl.keep num5_lasts hs hW))
  rw [listsOk_eq]
  clear hf hs
  generalize (decide (Fs.length < 16) && Fs.all fillOk) = p at *
  generalize (decide (xs.length < 16) && xs.all strokeL) = q at *
  cases p
  · go_enter Try.func18, Try.ntmps18
    go_wp2_with (first
      | (go_at_call 35; (with_reducible refine (H1.out _ (bq_refl w)).mono ?_); rintro e W1 ⟨rfl, k1⟩; have Hw1 := k1; clear k1))
    go_ret
    exact ⟨rfl, Hw1⟩
  · go_enter Try.func18, Try.ntmps18
    go_wp2_with (first
      | (go_at_call 35; (with_reducible refine (H1.out _ (bq_refl w)).mono ?_); rintro e W1 ⟨rfl, k1⟩; have Hw1 := k1; clear k1)
      | (go_at_call 36; (with_reducible refine (H2.out _ Hw1).mono ?_); rintro e W2 ⟨rfl, k2⟩; have Hw2 := bq_trans Hw1 k2; clear k2 Hw1))
    go_ret
    exact ⟨rfl, Hw2⟩
end Go.Proofs.Ythlnjipefeglpaa
namespace Go.Proofs.Ythlnjipefeglpaa.Dex
open Go
set_option linter.unusedVariables false
def Goes (S : World → Prop) (R : Nat → World → Prop) (j : Nat) (w w' : World) : Prop := S w' ∧ R j w' ∧ ∀ i, i ≠ j → R i w → R i w'
def Tells (P : Program) (ops : Array Oper) (S : World → Prop) (R : Nat → World → Prop) (j : Nat) (o : Oper) (v : Value) (a : Act) : Prop :=
  (Region.wanted o (yielded ops a.tmps) = true ∧ ∀ w, S w →
    (∃ w', ((execOp a.eval o).run P w = .ok (.value v) w' ∨ ((execOp a.eval o).run P w = .ok .skip w' ∧ v = undef)) ∧ Goes S R j w w') ∨
    (∃ f args w', (execOp a.eval o).run P w = .ok (.enter f args) w' ∧ Calls P f args w' fun e w'' => e = .returned v ∧ Goes S R j w w'')) ∨
  (Region.wanted o (yielded ops a.tmps) = false ∧ v = undef ∧ ∀ w, S w → R j w)
section
variable {P : Program} {ops : Array Oper} {Q : Exit → Act → World → Prop} {S : World → Prop} {R : Nat → World → Prop} {md : Region.Mode}
def wpDet (P : Program) (ops : Array Oper) (Q : Exit → Act → World → Prop) (S : World → Prop) (R : Nat → World → Prop) : Nat → List Oper → Act → Prop
  | _, [], a => ∀ w, S w → (∀ i, i < ops.size → R i w) → Q .normal a w
  | k, o :: rest, a => ∃ v, Tells P ops S R k o v a ∧ wpDet P ops Q S R (k + 1) rest (a.put o.dst v)
def detB (md : Region.Mode) (ops : Array Oper) : Bool :=
  Region.noSelect ops && (List.range ops.size).all fun i => match ops[i]? with
    | none => true
    | some x => (x.after.all fun e => !Region.binds md e || decide (e.on < i)) && (List.range ops.size).all fun j => match ops[j]? with
      | none => true
      | some y => match y.dst with
        | none => true
        | some d => (!(x.looksAt ops).contains d || (decide (j < i) && x.after.any fun e => Region.binds md e && e.on == j) || (decide (i < j) && y.after.any fun e => Region.binds md e && e.on == i)) && (i == j || x.dst != some d)
structure Fit (md : Region.Mode) (ops : Array Oper) : Prop where
  sel : ∀ (j : Nat) (o : Oper) cs b, ops[j]? = some o → o.op ≠ .select cs b
  back : ∀ (i : Nat) (x : Oper), ops[i]? = some x → ∀ e ∈ x.after, Region.binds md e = true → e.on < i
  looks : ∀ (i j : Nat) (x y : Oper) (d : Tmp), ops[i]? = some x → ops[j]? = some y → y.dst = some d → d ∈ x.looksAt ops → (j < i ∧ ∃ e ∈ x.after, Region.binds md e = true ∧ e.on = j) ∨ (i < j ∧ ∃ e ∈ y.after, Region.binds md e = true ∧ e.on = i)
  once : ∀ (i j : Nat) (x y : Oper) (d : Tmp), ops[i]? = some x → ops[j]? = some y → i ≠ j → y.dst = some d → x.dst ≠ some d
structure At (ops : Array Oper) (a0 : Act) (V : Nat → Value) (D : Nat → Prop) (b : Act) : Prop where
  size : b.tmps.size = a0.tmps.size
  defers : b.defers = a0.defers
  old : ∀ t : Tmp, (∀ (i : Nat) (o : Oper), D i → ops[i]? = some o → o.dst ≠ some t) → b.tmps[t]? = a0.tmps[t]?
  told : ∀ (i : Nat) (o : Oper) (d : Tmp), D i → ops[i]? = some o → o.dst = some d → d < a0.tmps.size → b.tmps[d]? = some (V i)
end
end Go.Proofs.Ythlnjipefeglpaa.Dex
namespace Go.Proofs.Ythlnjipefeglpaa.Dex
open Go Go.RowKit
set_option linter.unusedVariables false
section
variable {P : Program} {ops : Array Oper} {Q : Exit → Act → World → Prop} {S : World → Prop} {R : Nat → World → Prop} {rest : List Oper} {o : Oper} {a : Act} {k : Nat}
end
end Go.Proofs.Ythlnjipefeglpaa.Dex
namespace Go.Proofs.Ythlnjipefeglpaa
open Go.RowKit
set_option linter.unusedVariables false
set_option linter.unusedSimpArgs false
set_option maxRecDepth 100000
theorem zeroFL8 (w : World) : (zeroValue 28).run Try.prog w = .ok (.agg #[.int .i64 0, .int .i64 0, .int .i64 0, .int .i64 0, .int .i64 0, .int .i64 0, .int .i64 0, .int .i64 0, .int .i64 0, .int .i64 0, .int .i64 0, .int .i64 0, .slice none 0 0, .int .i64 0]) w := Try.zeroValue28 w
theorem size28g8 : (Try.prog.info? 28).map (·.size) = some 14 := by kernel_rfl
theorem size23g8 : (Try.prog.info? 23).map (·.size) = some 4 := by kernel_rfl
theorem size25g8 : (Try.prog.info? 25).map (·.size) = some 6 := by kernel_rfl
end Go.Proofs.Ythlnjipefeglpaa
namespace Go.Proofs.Ythlnjipefeglpaa
open Go.RowKit
set_option linter.unusedVariables false
theorem OwnC.slice {w : World} {B : Nat} {e : TypeId} {k : Nat} {v : Value} {css : List (List Value)} (h : OwnC w B e k v css) : ∃ a c, v = .slice a css.length c := by
  rcases h.1.2 with ⟨rfl, h0⟩ | ⟨g, cap, cur, rfl, _⟩
  · exact ⟨none, 0, by rw [h0]⟩
  · exact ⟨_, cap, rfl⟩
theorem OwnC.gone {w w' : World} {B q : Nat} {e : TypeId} {k : Nat} {v : Value} {css : List (List Value)} (h : OwnC w B e k v css) (hb : But q q w w') (hq : ∀ g, v.ownBlock = some g → g ≠ q) : OwnC w' B e k v css :=
  h.same fun g hg => hb.block g (h.lt hg).2 (hq g hg) (hq g hg)
theorem Turned.gone {w w' : World} {q : Nat} (h : Turned q w w') : But q q w w' := ⟨h.os, h.tape, h.output, Nat.le_of_eq h.size.symm, fun k _ h1 _ => h.block k h1⟩
def OwnM (w : World) (B M : Nat) (e : TypeId) (v : Value) (xs : List (List Int)) : Prop := OwnP w B e v xs ∧ ∀ g, v.ownBlock = some g → g < M
section
variable {w w' : World} {B M q : Nat} {e : TypeId} {v : Value} {xs : List (List Int)}
theorem OwnP.m (h : OwnP w B e v xs) : OwnM w B w.heap.size e v xs := ⟨h, fun g hg => (h.1.lt hg).2⟩
theorem OwnM.keep (h : OwnM w B M e v xs) (hb : Below w.heap.size w w') : OwnM w' B M e v xs := ⟨h.1.keep hb, h.2⟩
theorem OwnM.but (h : OwnM w B M e v xs) (hb : But q q w w') (hq : q < B ∨ M ≤ q) : OwnM w' B M e v xs :=
  ⟨⟨h.1.1.gone hb fun g hg => by have := (h.1.1.lt hg).1; have := h.2 g hg; omega, h.1.2⟩, h.2⟩
theorem OwnM.turned (h : OwnM w B M e v xs) (hb : Turned q w w') (hq : q < B ∨ M ≤ q) : OwnM w' B M e v xs := h.but hb.gone hq
end
def OwnFM (w : World) (B M : Nat) (v : Value) (Fs : List FV) : Prop :=
  ∃ svs : List Value, svs.length = Fs.length ∧ OwnC w B 28 14 v (List.zipWith fillC Fs svs) ∧ (∀ g, v.ownBlock = some g → g < M) ∧
    ∀ i (h1 : i < Fs.length) (h2 : i < svs.length), Fs[i].Fit ∧ OwnP w B 65 svs[i] Fs[i].st ∧ ∀ g, svs[i].ownBlock = some g → v.ownBlock ≠ some g ∧ g < M
section
variable {w w' : World} {B M q : Nat} {v : Value} {Fs : List FV}
theorem OwnF.m (h : OwnF w B v Fs) : OwnFM w B w.heap.size v Fs := by
  obtain ⟨svs, h1, h2, h3⟩ := h
  exact ⟨svs, h1, h2, fun g hg => (h2.lt hg).2, fun i g1 g2 => ⟨(h3 i g1 g2).1, (h3 i g1 g2).2.1, fun g hg => ⟨(h3 i g1 g2).2.2 g hg, ((h3 i g1 g2).2.1.1.lt hg).2⟩⟩⟩
theorem OwnFM.f (h : OwnFM w B M v Fs) : OwnF w B v Fs := by
  obtain ⟨svs, h1, h2, _, h3⟩ := h
  exact ⟨svs, h1, h2, fun i g1 g2 => ⟨(h3 i g1 g2).1, (h3 i g1 g2).2.1, fun g hg => ((h3 i g1 g2).2.2 g hg).1⟩⟩
theorem OwnFM.keep (h : OwnFM w B M v Fs) (hb : Below w.heap.size w w') : OwnFM w' B M v Fs := by
  obtain ⟨svs, h1, h2, h4, h3⟩ := h
  exact ⟨svs, h1, h2.keep hb, h4, fun i g1 g2 => ⟨(h3 i g1 g2).1, (h3 i g1 g2).2.1.keep hb, (h3 i g1 g2).2.2⟩⟩
theorem OwnFM.but (h : OwnFM w B M v Fs) (hb : But q q w w') (hq : q < B ∨ M ≤ q) : OwnFM w' B M v Fs := by
  obtain ⟨svs, h1, h2, h4, h3⟩ := h
  refine ⟨svs, h1, h2.gone hb fun g hg => ?_, h4, fun i g1 g2 => ⟨(h3 i g1 g2).1, ⟨(h3 i g1 g2).2.1.1.gone hb fun g hg => ?_, (h3 i g1 g2).2.1.2⟩, (h3 i g1 g2).2.2⟩⟩
  · have := (h2.lt hg).1; have := h4 g hg; omega
  · have := ((h3 i g1 g2).2.1.1.lt hg).1; have := ((h3 i g1 g2).2.2 g hg).2; omega
end
structure SzM (w : World) (B M : Nat) : Prop where
  le : M ≤ w.heap.size
theorem SzM.keep {w w' : World} {B M : Nat} (h : SzM w B M) (hb : Below w.heap.size w w') : SzM w' B M := ⟨Nat.le_trans h.le hb.size⟩
theorem SzM.turned {w w' : World} {B M q : Nat} (h : SzM w B M) (hb : Turned q w w') (_ : q < B ∨ M ≤ q) : SzM w' B M := ⟨by rw [hb.size]; exact h.le⟩
theorem SzM.but {w w' : World} {B M q : Nat} (h : SzM w B M) (hb : But q q w w') (_ : q < B ∨ M ≤ q) : SzM w' B M := ⟨Nat.le_trans h.le hb.size⟩
end Go.Proofs.Ythlnjipefeglpaa
namespace Go.Proofs.Ythlnjipefeglpaa
open Go.RowKit
set_option linter.unusedVariables false
theorem Tk.lt {w : World} {b : Nat} {x : RS} (h : Tk w b x) : b < w.heap.size := Blk.lt h
theorem Turned.tk {w w' : World} {b g : Nat} {x : RS} (h : Turned g w w') (hB : Tk w b x) (hn : b ≠ g) : Tk w' b x := h.blk hB hn
end Go.Proofs.Ythlnjipefeglpaa
