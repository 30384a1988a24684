import Derived.Test.YthlnjipefeglpaaZU7
import Derived.Test.YthlnjipefeglpaaZU13
import Derived.Test.YthlnjipefeglpaaZU17
import Derived.Test.YthlnjipefeglpaaZU9
import Derived.Laws.StructEq
namespace Go.Proofs.Ythlnjipefeglpaa
open Go.RowKit
set_option linter.unusedVariables false
set_option maxRecDepth 100000
theorem qRG (a0 a1 a2 a3 b0 b1 b2 b3 : Int) (w : World) : (Op.equalIn 10000 23 (.agg #[.int .i64 a0, .int .i64 a1, .int .i64 a2, .int .i64 a3]) (.agg #[.int .i64 b0, .int .i64 b1, .int .i64 b2, .int .i64 b3])).run Try.prog w = .ok (decide ([a0, a1, a2, a3] = [b0, b1, b2, b3])) w := by
  go_simp
  repeat' split
  all_goals simp_all
theorem qMT (a0 a1 a2 a3 a4 a5 b0 b1 b2 b3 b4 b5 : Int) (w : World) : (Op.equalIn 10000 25 (.agg #[.int .i64 a0, .int .i64 a1, .int .i64 a2, .int .i64 a3, .int .i64 a4, .int .i64 a5]) (.agg #[.int .i64 b0, .int .i64 b1, .int .i64 b2, .int .i64 b3, .int .i64 b4, .int .i64 b5])).run Try.prog w = .ok (decide ([a0, a1, a2, a3, a4, a5] = [b0, b1, b2, b3, b4, b5])) w := by
  go_simp
  repeat' split
  all_goals simp_all
theorem qSP (a0 a1 a2 a3 a4 b0 b1 b2 b3 b4 : Int) (w : World) : (Op.equalIn 10000 65 (.agg #[.int .i64 a0, .int .i64 a1, .int .i64 a2, .int .i64 a3, .int .i64 a4]) (.agg #[.int .i64 b0, .int .i64 b1, .int .i64 b2, .int .i64 b3, .int .i64 b4])).run Try.prog w = .ok (decide ([a0, a1, a2, a3, a4] = [b0, b1, b2, b3, b4])) w := by
  go_simp
  repeat' split
  all_goals simp_all
theorem qSK (a0 a1 a2 a3 a4 b0 b1 b2 b3 b4 : Int) (w : World) : (Op.equalIn 10000 30 (.agg #[.int .i64 a0, .int .i64 a1, .int .i64 a2, .int .i64 a3, .int .i64 a4]) (.agg #[.int .i64 b0, .int .i64 b1, .int .i64 b2, .int .i64 b3, .int .i64 b4])).run Try.prog w = .ok (decide ([a0, a1, a2, a3, a4] = [b0, b1, b2, b3, b4])) w := by
  go_simp
  repeat' split
  all_goals simp_all
def strokeOk (x r g b a : Int) : Bool := decide (0 ≤ x) && decide (x < 65536) && rgbaOk r g b a
set_option maxHeartbeats 1000000 in
theorem refstroke_any (x r g b a : Int) (w : World) (hr : I64 r) (hg : I64 g) (hb : I64 b) (ha : I64 a) :
    Calls Try.prog 12 #[.agg #[.int .i64 x, .int .i64 r, .int .i64 g, .int .i64 b, .int .i64 a]] w fun e w' => e = .returned (.bool (strokeOk x r g b a)) ∧ Below w.heap.size w w' := by
  have HR := Lib.hid (fun W => refrgba_any r g b a W hr hg hb ha)
  unfold strokeOk
  generalize rgbaOk r g b a = q at *
  cases q0 : decide (0 ≤ x) <;> cases q1 : decide (x < 65536)
  · go_enter Try.func12, Try.ntmps12
    go_wp2_with (first
      | (refine wl_box 30 _ _ rfl rfl (show _ = Value.agg #[.int .i64 x, .int .i64 r, .int .i64 g, .int .i64 b, .int .i64 a] from rfl) ?_; intro W1 bs Bs_1 l1 k1; have gs : w.heap.size ≤ bs := l1; have Hw1 := k1; clear l1 k1; have cs_0_1 : W1.cell? ⟨bs, 0, none⟩ = some (.int .i64 x) := Bs_1.cell 0; have cs_1_1 : W1.cell? ⟨bs, 1, none⟩ = some (.int .i64 r) := Bs_1.cell 1; have cs_2_1 : W1.cell? ⟨bs, 2, none⟩ = some (.int .i64 g) := Bs_1.cell 2; have cs_3_1 : W1.cell? ⟨bs, 3, none⟩ = some (.int .i64 b) := Bs_1.cell 3; have cs_4_1 : W1.cell? ⟨bs, 4, none⟩ = some (.int .i64 a) := Bs_1.cell 4))
    go_ret
    exact ⟨rfl, Hw1⟩
  · go_enter Try.func12, Try.ntmps12
    go_wp2_with (first
      | (refine wl_box 30 _ _ rfl rfl (show _ = Value.agg #[.int .i64 x, .int .i64 r, .int .i64 g, .int .i64 b, .int .i64 a] from rfl) ?_; intro W1 bs Bs_1 l1 k1; have gs : w.heap.size ≤ bs := l1; have Hw1 := k1; clear l1 k1; have cs_0_1 : W1.cell? ⟨bs, 0, none⟩ = some (.int .i64 x) := Bs_1.cell 0; have cs_1_1 : W1.cell? ⟨bs, 1, none⟩ = some (.int .i64 r) := Bs_1.cell 1; have cs_2_1 : W1.cell? ⟨bs, 2, none⟩ = some (.int .i64 g) := Bs_1.cell 2; have cs_3_1 : W1.cell? ⟨bs, 3, none⟩ = some (.int .i64 b) := Bs_1.cell 3; have cs_4_1 : W1.cell? ⟨bs, 4, none⟩ = some (.int .i64 a) := Bs_1.cell 4))
    go_ret
    exact ⟨rfl, Hw1⟩
  · go_enter Try.func12, Try.ntmps12
    go_wp2_with (first
      | (refine wl_box 30 _ _ rfl rfl (show _ = Value.agg #[.int .i64 x, .int .i64 r, .int .i64 g, .int .i64 b, .int .i64 a] from rfl) ?_; intro W1 bs Bs_1 l1 k1; have gs : w.heap.size ≤ bs := l1; have Hw1 := k1; clear l1 k1; have cs_0_1 : W1.cell? ⟨bs, 0, none⟩ = some (.int .i64 x) := Bs_1.cell 0; have cs_1_1 : W1.cell? ⟨bs, 1, none⟩ = some (.int .i64 r) := Bs_1.cell 1; have cs_2_1 : W1.cell? ⟨bs, 2, none⟩ = some (.int .i64 g) := Bs_1.cell 2; have cs_3_1 : W1.cell? ⟨bs, 3, none⟩ = some (.int .i64 b) := Bs_1.cell 3; have cs_4_1 : W1.cell? ⟨bs, 4, none⟩ = some (.int .i64 a) := Bs_1.cell 4))
    go_ret
    exact ⟨rfl, Hw1⟩
  · go_enter Try.func12, Try.ntmps12
    go_wp2_with (first
      | (refine wl_box 30 _ _ rfl rfl (show _ = Value.agg #[.int .i64 x, .int .i64 r, .int .i64 g, .int .i64 b, .int .i64 a] from rfl) ?_; intro W1 bs Bs_1 l1 k1; have gs : w.heap.size ≤ bs := l1; have Hw1 := k1; clear l1 k1; have cs_0_1 : W1.cell? ⟨bs, 0, none⟩ = some (.int .i64 x) := Bs_1.cell 0; have cs_1_1 : W1.cell? ⟨bs, 1, none⟩ = some (.int .i64 r) := Bs_1.cell 1; have cs_2_1 : W1.cell? ⟨bs, 2, none⟩ = some (.int .i64 g) := Bs_1.cell 2; have cs_3_1 : W1.cell? ⟨bs, 3, none⟩ = some (.int .i64 b) := Bs_1.cell 3; have cs_4_1 : W1.cell? ⟨bs, 4, none⟩ = some (.int .i64 a) := Bs_1.cell 4)
      | (go_at_call 23; (with_reducible refine (HR.out _).mono ?_); rintro e W2 ⟨rfl, k2⟩; have Bs_2 := Bs_1.keep k2; have Hw2 := bq_trans Hw1 k2; clear k2 Bs_1 cs_0_1 cs_1_1 cs_2_1 cs_3_1 cs_4_1 Hw1))
    go_ret
    exact ⟨rfl, Hw2⟩
theorem bytes1_run (x : Int) (w : World) : (Instr.buildSlice 96 1 [(0, .int .u8 x)].toArray).run Try.prog w = .ok (.slice (some ⟨w.heap.size, 0, none⟩) 1 1) (w.alloc (.cells #[.int .u8 x] 5)) := by
  obtain ⟨ie, h1, h2⟩ := Option.map_eq_some_iff.1 byte_info
  have hz : ie.zero = some (.int .u8 0) := congrArg (·.1) h2
  have hs : ie.size = 1 := congrArg (·.2.1) h2
  refine run_buildSlice w 96 5 1 _ _ ie (.int .u8 0) Try.underlying96 h1 hz (by rw [hs]; decide) (by rw [hs]; decide) ?_
  rw [hs]; kernel_rfl
theorem bytes2_run (x y : Int) (w : World) : (Instr.buildSlice 96 2 [(0, .int .u8 x), (1, .int .u8 y)].toArray).run Try.prog w = .ok (.slice (some ⟨w.heap.size, 0, none⟩) 2 2) (w.alloc (.cells #[.int .u8 x, .int .u8 y] 5)) := by
  obtain ⟨ie, h1, h2⟩ := Option.map_eq_some_iff.1 byte_info
  have hz : ie.zero = some (.int .u8 0) := congrArg (·.1) h2
  have hs : ie.size = 1 := congrArg (·.2.1) h2
  refine run_buildSlice w 96 5 2 _ _ ie (.int .u8 0) Try.underlying96 h1 hz (by rw [hs]; decide) (by rw [hs]; decide) ?_
  rw [hs]; kernel_rfl
def by1 (n : Nat) : List UInt8 := [UInt8.ofNat n]
def by2 (n : Nat) : List UInt8 := [UInt8.ofNat (n % 256), UInt8.ofNat (n / 256)]
theorem u8_nat (n : Nat) (h : n < 256) : IntKind.u8.wrap (n : Int) = (n : Int) := by rw [IntKind.wrap_u8]; omega
theorem bytes_str (l : List UInt8) (vs : Array Value) (hv : vs.toList = l.map fun c => Value.int .u8 (c.toNat : Int)) {W : World} {q : Nat} (hB : Blk W q vs 5) : (convert 96 9 (.slice (some ⟨q, 0, none⟩) l.length l.length)).run Try.prog W = .ok (.string (bs l)) W := by
  refine BRow.str (l := l) ⟨hB.lt, fun i hi => ⟨?_, hB.frozen i⟩⟩ l.length
  rw [hB.cell]
  rw [← Array.getElem?_toList, hv]
  simp [hi]
theorem refone_any (n : Nat) (w : World) (hn : n < 256) : Calls Try.prog 37 #[.int .i64 (n : Int)] w fun e w' => e = .returned (.string (bs (by1 n))) ∧ Below w.heap.size w w' := by
  have hw := u8_nat n hn
  go_enter Try.func37, Try.ntmps37
  go_wp2_with (first | (refine wlg_slice 96 5 1 _ _ (bytes1_run (n : Int)) _ rfl rfl rfl ?_; intro W1 bq Bq l1 k1; have hcv := bytes_str (by1 n) _ (show _ = [Value.int .u8 ((UInt8.ofNat n).toNat : Int)] by rw [B.ofNat_toNat n hn]) Bq; have hcv : (convert 96 9 (.slice (some ⟨bq, 0, none⟩) 1 1)).run Try.prog W1 = .ok (.string (bs (by1 n))) W1 := hcv))
  go_ret
  exact ⟨rfl, k1⟩
theorem reftwo_any (n : Nat) (w : World) (hn : n < 65536) : Calls Try.prog 40 #[.int .i64 (n : Int)] w fun e w' => e = .returned (.string (bs (by2 n))) ∧ Below w.heap.size w w' := by
  have h1 : n % 256 < 256 := by omega
  have h2 : n / 256 < 256 := by omega
  have e1 : IntKind.u8.wrap ((n : Int).tmod 256) = ((n % 256 : Nat) : Int) := by rw [Int.tmod_eq_emod_of_nonneg (by omega), IntKind.wrap_u8]; omega
  have e2 : IntKind.u8.wrap ((n : Int).tdiv 256) = ((n / 256 : Nat) : Int) := by rw [Int.tdiv_eq_ediv_of_nonneg (by omega), IntKind.wrap_u8]; omega
  have e3 : IntKind.u8.wrap (IntKind.i64.wrap ((n : Int).tdiv 256)) = ((n / 256 : Nat) : Int) := by rw [i64_wrap _ (by rw [Int.tdiv_eq_ediv_of_nonneg (by omega)]; omega) (by rw [Int.tdiv_eq_ediv_of_nonneg (by omega)]; omega), e2]
  go_enter Try.func40, Try.ntmps40
  go_wp2_with (first | (refine wlg_slice 96 5 2 _ _ (bytes2_run ((n % 256 : Nat) : Int) ((n / 256 : Nat) : Int)) _ rfl rfl rfl ?_; intro W1 bq Bq l1 k1; have hcv := bytes_str (by2 n) _ (show _ = [Value.int .u8 ((UInt8.ofNat (n % 256)).toNat : Int), Value.int .u8 ((UInt8.ofNat (n / 256)).toNat : Int)] by rw [B.ofNat_toNat _ h1, B.ofNat_toNat _ h2]) Bq; have hcv : (convert 96 9 (.slice (some ⟨bq, 0, none⟩) 2 2)).run Try.prog W1 = .ok (.string (bs (by2 n))) W1 := hcv))
  go_ret
  exact ⟨rfl, k1⟩
def liV (s : ByteArray) (a n : Int) : Int := (B.lv (byB s a n).data.toList : Int)
def RS.li (x : RS) (n : Int) : Int := if x.e = 0 then liV x.s x.a n else 0
def RS.liS (x : RS) (n : Int) : RS := if x.e = 0 then ⟨byS x.s x.a n, byA x.s x.a n, byE x.s.size x.a n⟩ else x
theorem RS.liS_size (x : RS) (n : Int) {m : Nat} (h : x.s.size ≤ m) : (x.liS n).s.size ≤ m := by
  unfold RS.liS
  split
  · show (byS _ _ _).size ≤ m
    unfold byS
    split
    · exact h
    · exact Nat.zero_le _
  · exact h
theorem rgV_len8 (s : ByteArray) (a : Int) : (rgV s a).length = 4 := by
  unfold rgV
  split
  · rename_i h
    rw [List.length_map]
    have hb : byE s.size a 4 = 0 → (0 ≤ a ∧ a ≤ 8 * s.size ∧ (0 : Int) ≤ 4) ∧ ¬ ((s.size : Int) - (a + 7) / 8 < 4) := fun h => by
      unfold byE at h
      split at h
      · rename_i hh
        split at h
        · cases h
        · rename_i h2; exact ⟨hh, h2⟩
      · cases h
    obtain ⟨⟨h0, h1, _⟩, h2⟩ := hb h
    have : (byB s a 4).data.toList.length = (byB s a 4).size := by rw [Array.length_toList]; rfl
    rw [this]
    unfold byB
    rw [if_pos h, ByteArray.size_extract]
    have e4 : (4 : Int).toNat = 4 := rfl
    rw [e4]
    omega
  · rfl
def RS.cv (x : RS) : List Int := if x.e = 0 then rgV x.s x.a else [0, 0, 0, 0]
def RS.cvS (x : RS) : RS := if x.e = 0 then ⟨byS x.s x.a 4, byA x.s x.a 4, byE x.s.size x.a 4⟩ else x
def RS.mv (x : RS) : List Int := if x.e = 0 then matV (RS.begP x.s x.a) else [0, 0, 0, 0, 0, 0]
def RS.mvS (x : RS) : RS := if x.e = 0 then matS (RS.begP x.s x.a) else x
end Go.Proofs.Ythlnjipefeglpaa
namespace Go.Proofs.Ythlnjipefeglpaa
open Go.RowKit
set_option linter.unusedVariables false
set_option maxRecDepth 100000
def rgbaL : List Int → Bool
  | [r, g, b, a] => rgbaOk r g b a
  | _ => false
def strokeL : List Int → Bool
  | [x, r, g, b, a] => strokeOk x r g b a
  | _ => false
def stopsFrom (p : Int) : List (List Int) → Bool
  | [] => true
  | s :: st => decide (p ≤ s.getD 0 0) && decide (s.getD 0 0 ≤ 255) && rgbaL (s.drop 1) && stopsFrom (s.getD 0 0) st
def fillOk (F : FV) : Bool :=
  if F.k = 0 then decide (F.m = [0, 0, 0, 0, 0, 0]) && decide (F.sp = 0) && decide (F.id = 0) && decide (F.st.length = 0) && rgbaL F.c
  else if F.k = 64 ∨ F.k = 65 then decide (F.c = [0, 0, 0, 0]) && decide (F.sp = 0) && decide (F.st.length = 0) && decide (0 ≤ F.id) && decide (F.id < 65536) && matOkL F.m
  else if F.k = 16 ∨ F.k = 18 then stopsFrom 0 F.st && decide (F.c = [0, 0, 0, 0]) && decide (F.id = 0) && decide (0 ≤ F.sp) && decide (F.sp < 3) && decide (0 < F.st.length) && decide (F.st.length < 9) && matOkL F.m
  else false
def listsOk (Fs : List FV) (xs : List (List Int)) : Bool := Fs.all fillOk && xs.all strokeL && decide (Fs.length < 16) && decide (xs.length < 16)
theorem allT {α : Type} (f : α → Bool) (zs : List α) (k : Nat) (h : k < zs.length) (h1 : (zs.take k).all f = true) (h2 : f zs[k] = true) : (zs.take (k + 1)).all f = true := by
  rw [List.take_succ_eq_append_getElem h, List.all_append, h1]
  simp [h2]
theorem allF {α : Type} (f : α → Bool) (zs : List α) (k : Nat) (h : k < zs.length) (h2 : f zs[k] = false) : zs.all f = false := by
  rw [List.all_eq_false]
  exact ⟨zs[k], List.getElem_mem h, by rw [h2]; simp⟩
theorem fillC_len {F : FV} (h : F.Fit) (sv : Value) : (fillC F sv).length = 14 := by
  simp [fillC, iL_len, h.c, h.m]
theorem size28f {F : FV} (h : F.Fit) (sv : Value) : (Try.prog.info? 28).map (·.size) = some (fillC F sv).length := by
  rw [fillC_len h]; kernel_rfl
theorem size30f {x : List Int} (h : x.length = 5) : (Try.prog.info? 30).map (·.size) = some (iL x).length := by
  rw [iL_len, h]; kernel_rfl
theorem list5 (l : List Int) (h : l.length = 5) : ∃ a b c d e, l = [a, b, c, d, e] := by
  match l, h with
  | [a, b, c, d, e], _ => exact ⟨a, b, c, d, e, rfl⟩
theorem refstroke_l (x : List Int) (w : World) (h : x.length = 5) (hb : ∀ v ∈ x, I64 v) : Calls Try.prog 12 #[.agg (iL x).toArray] w fun e w' => e = .returned (.bool (strokeL x)) ∧ Below w.heap.size w w' := by
  obtain ⟨a, b, c, d, e, rfl⟩ := list5 x h
  exact refstroke_any a b c d e w (hb b (by simp)) (hb c (by simp)) (hb d (by simp)) (hb e (by simp))
def RtRel {α : Type} (w : World) (f : α → Bool) (xs : List α) (i : Value) (wr : World) : Prop := ∃ k : Nat, k ≤ xs.length ∧ i = .int .i64 k ∧ (xs.take k).all f = true ∧ Below w.heap.size w wr
set_option maxHeartbeats 2000000 in
theorem refright8_of (Fs : List FV) (xs : List (List Int)) (fv sv : Value) (w : World) (hf : Fills w fv Fs) (hs : Strokes w sv xs)
    (HF : Hid (∀ (F : FV) (s : Value) (W : World), F.Fit → Stops W s F.st → Calls Try.prog 10 #[.agg (fillC F s).toArray] W fun e w' => e = .returned (.bool (fillOk F)) ∧ Below W.heap.size W w')) :
    Calls Try.prog 17 #[fv, sv] w fun e w' => e = .returned (.bool (listsOk Fs xs)) ∧ Below w.heap.size w w' := by
  obtain ⟨fa, fc, fb, fo, rfl, fl, fget⟩ := hf.get
  obtain ⟨sa, sc, sb, so, rfl, sl, sget⟩ := hs.get
  have FG := Lib.hid fget
  have SG := Lib.hid sget
  clear hf hs fget sget
  go_enter Try.func17, Try.ntmps17
  go_wp2_with fail
  go_loopw [5] (fun i wr => RtRel w fillOk Fs i wr) (fun i _ => Fs.length - (intOf i).toNat)
  case atStart => exact ⟨0, by omega, rfl, rfl, bq_refl w⟩
  case round =>
    obtain ⟨k, hk, rfl, hall, hbel⟩ := hrel
    have HA := Lib.hid hall
    have HB := Lib.hid hbel
    clear hall hbel
    by_cases hlt : k < Fs.length
    · obtain ⟨rfl, hblt, cs, hcs, ⟨hfit, s, rfl, hst⟩, hrg⟩ := FG.out k hlt
      have rg := rangeAt_keep hrg HB.out
      have hst' : Stops wr s Fs[k].st := Sl.keep num5_lasts hst HB.out
      have HC := Lib.hid (HF.out Fs[k] s wr hfit hst')
      have hsz := size28f hfit s
      have HT := Lib.hid (allT fillOk Fs k hlt HA.out)
      have HN := Lib.hid (allF fillOk Fs k hlt)
      clear hrg hst hst' hfit hcs
      generalize Fs[k] = F at *
      cases q : fillOk F
      · rw [q] at HC
        have HL : Hid (listsOk Fs xs = false) := Lib.hid (by unfold listsOk; rw [HN.out q]; rfl)
        clear HT HN HA q
        go_wp2_with (first
          | (refine wpList_load_mid rfl 28 _ rfl fb (fo + k * 14) rfl (fillC F s) _ rg Try.underlying28 rfl hsz ?_)
          | (go_at_call 10; (with_reducible refine HC.out.mono ?_); rintro e w2 ⟨rfl, k2⟩))
        go_ret
        exact ⟨ret_bool HL.out.symm, bq_trans HB.out k2⟩
      · rw [q] at HC
        have HT2 := Lib.hid (HT.out q)
        clear HT HN HA q
        go_wp2_with (first
          | (refine wpList_load_mid rfl 28 _ rfl fb (fo + k * 14) rfl (fillC F s) _ rg Try.underlying28 rfl hsz ?_)
          | (go_at_call 10; (with_reducible refine HC.out.mono ?_); rintro e w2 ⟨rfl, k2⟩))
        go_roundw
        case rel => exact ⟨k + 1, by omega, by go_num, HT2.out, bq_trans HB.out k2⟩
        case measure => simp [intOf]; omega
    · obtain rfl : k = Fs.length := by omega
      have HL : Hid (Fs.all fillOk = true) := Lib.hid (by rw [← HA.out, List.take_length])
      clear HA FG
      go_wp2_with fail
      go_loopw [6] (fun i wq => RtRel w strokeL xs i wq) (fun i _ => xs.length - (intOf i).toNat)
      case atStart => exact ⟨0, by omega, rfl, rfl, HB.out⟩
      case round =>
        obtain ⟨j, hj, rfl, hall, hbel⟩ := hrel
        have HA := Lib.hid hall
        have HB2 := Lib.hid hbel
        clear hall hbel
        by_cases hlt2 : j < xs.length
        · obtain ⟨rfl, hblt, cs, hcs, ⟨h5, rfl, hbd⟩, hrg⟩ := SG.out j hlt2
          have rg := rangeAt_keep hrg HB2.out
          have HC := Lib.hid (fun W => refstroke_l xs[j] W h5 hbd)
          have hsz := size30f h5
          have HT := Lib.hid (allT strokeL xs j hlt2 HA.out)
          have HN := Lib.hid (allF strokeL xs j hlt2)
          clear hrg hcs hbd h5
          generalize xs[j] = x at *
          cases q : strokeL x
          · rw [q] at HC
            have HL2 : Hid (listsOk Fs xs = false) := Lib.hid (by unfold listsOk; rw [HL.out, HN.out q]; rfl)
            clear HT HN HA q
            go_wp2_with (first
              | (refine wpList_load_mid rfl 30 _ rfl sb (so + j * 5) rfl (iL x) _ rg Try.underlying30 rfl hsz ?_)
              | (go_at_call 12; (with_reducible refine (HC.out _).mono ?_); rintro e w2 ⟨rfl, k2⟩))
            go_ret
            exact ⟨ret_bool HL2.out.symm, bq_trans HB2.out k2⟩
          · rw [q] at HC
            have HT2 := Lib.hid (HT.out q)
            clear HT HN HA q
            go_wp2_with (first
              | (refine wpList_load_mid rfl 30 _ rfl sb (so + j * 5) rfl (iL x) _ rg Try.underlying30 rfl hsz ?_)
              | (go_at_call 12; (with_reducible refine (HC.out _).mono ?_); rintro e w2 ⟨rfl, k2⟩))
            go_roundw
            case rel => exact ⟨j + 1, by omega, by go_num, HT2.out, bq_trans HB2.out k2⟩
            case measure => simp [intOf]; omega
        · obtain rfl : j = xs.length := by omega
          have HL2 : Hid (xs.all strokeL = true) := Lib.hid (by rw [← HA.out, List.take_length])
          clear HA SG
          cases q1 : decide ((Fs.length : Int) < 16) <;> cases q2 : decide ((xs.length : Int) < 16)
          all_goals
            have HX : Hid (listsOk Fs xs = (decide ((Fs.length : Int) < 16) && decide ((xs.length : Int) < 16))) := Lib.hid (by
              unfold listsOk; rw [HL.out, HL2.out]; simp only [Bool.true_and]; congr 1 <;> (apply decide_eq_decide.2; omega))
            rw [q1, q2] at HX
            go_wp2_with fail
            go_ret
            exact ⟨ret_bool HX.out.symm, HB2.out⟩
end Go.Proofs.Ythlnjipefeglpaa
