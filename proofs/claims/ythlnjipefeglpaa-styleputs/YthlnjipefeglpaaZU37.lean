import Derived.Test.YthlnjipefeglpaaZU36
import Derived.Test.YthlnjipefeglpaaZU13
import Derived.Test.YthlnjipefeglpaaZU8
namespace Go.Proofs.Ythlnjipefeglpaa
open Go.RowKit
set_option linter.unusedVariables false
set_option linter.unusedSimpArgs false
set_option maxRecDepth 100000
theorem post_ttct {P : Program} {fn : Func} {p u v t : Tmp} {ty : TypeId} {a : Act} {W : World} {R : Ending → World → Prop} {n : Nat} {d : TypeDesc}
    (hu : P.underlying ty = some d) (hd : (match d with | .struct _ | .array _ _ => true | _ => false) = true) (hi : (P.info? ty).map (·.size) = some n)
    (hres : fn.results = #[.tmp u, .tmp v, .cell p ty, .tmp t]) {b : Nat} {cs : Array Value} {tt : TypeId} (hB : Blk W b cs tt) (hn : cs.size = n)
    (hp : a.tmps[p]?.getD undef = .pointer (some ⟨b, 0, none⟩)) {x y z : Value} (hx : a.tmps[u]?.getD undef = x) (hy : a.tmps[v]?.getD undef = y) (hz : a.tmps[t]?.getD undef = z) (hdf : a.defers = []) (hR : R (.returned (.tuple #[x, y, .agg cs, z])) W) : bodyPost P fn R .ret a W := by
  refine bodyPost_ret (v := .tuple #[x, y, .agg cs, z]) ?_ hdf hR
  simp only [results, hres]
  simp [Sem.run_bind, Result.andThen, hp, hx, hy, hz, asAddr, run_loadVar_row W b tt ty cs (0, 0) d hB hu hd (by rw [hi, hn])]
def TakePost (w : World) (x : RS) (e : Ending) (w' : World) : Prop := ∃ fv sv, e = .returned (.tuple #[fv, sv, .agg #[.string (takeX x).s, .int .i64 (takeX x).a], .int .i64 (takeX x).e]) ∧ OwnF w' w.heap.size fv (takeF x) ∧ OwnP w' w.heap.size 30 sv (takeL x) ∧ Below w.heap.size w w'
set_option maxHeartbeats 4000000 in
theorem take8_any (s : ByteArray) (a : Int) (w : World) (hs : s.size ≤ 1000000) :
    Calls Try.prog 20 #[.agg #[.string s, .int .i64 a]] w (TakePost w ⟨s, a, 0⟩) := by
  show Calls _ _ _ _ fun e w' => ∃ fv sv, e = .returned (.tuple #[fv, sv, .agg #[.string (takeX ⟨s, a, 0⟩).s, .int .i64 (takeX ⟨s, a, 0⟩).a], .int .i64 (takeX ⟨s, a, 0⟩).e]) ∧ OwnF w' w.heap.size fv (takeF ⟨s, a, 0⟩) ∧ OwnP w' w.heap.size 30 sv (takeL ⟨s, a, 0⟩) ∧ Below w.heap.size w w'
  have hf : (fillsX ⟨s, a, 0⟩).2.s.size ≤ 1000000 := fillsX_size hs
  have HF0 : Hid (∀ bp W, Blk W bp #[.string s, .int .i64 a, .int .i64 0] 79 → Calls Try.prog 41 #[.pointer (some ⟨bp, 0, none⟩), .func (.func 42) #[] #[]] W fun e w' => ∃ v, e = .returned v ∧ OwnF w' W.heap.size v (fillsX ⟨s, a, 0⟩).1 ∧ Blk w' bp (fillsX ⟨s, a, 0⟩).2.cells 79 ∧ But bp bp W w') := Lib.hid fun bp W h => ptfills_any ⟨s, a, 0⟩ bp W h hs
  have HL0 : Hid (∀ bp W, Blk W bp (fillsX ⟨s, a, 0⟩).2.cells 79 → Calls Try.prog 43 #[.pointer (some ⟨bp, 0, none⟩), .func (.func 44) #[] #[]] W fun e w' => ∃ v, e = .returned v ∧ OwnP w' W.heap.size 30 v (linesX (fillsX ⟨s, a, 0⟩).2).1 ∧ Blk w' bp (linesX (fillsX ⟨s, a, 0⟩).2).2.cells 79 ∧ But bp bp W w') := Lib.hid fun bp W h => ptlines_any _ bp W h hf
  have HT : Hid (takeE ⟨s, a, 0⟩ = (linesX (fillsX ⟨s, a, 0⟩).2).2 ∧ takeF ⟨s, a, 0⟩ = (if (takeE ⟨s, a, 0⟩).e = 0 then (fillsX ⟨s, a, 0⟩).1 else []) ∧ takeL ⟨s, a, 0⟩ = (if (takeE ⟨s, a, 0⟩).e = 0 then (linesX (fillsX ⟨s, a, 0⟩).2).1 else []) ∧ takeX ⟨s, a, 0⟩ = (if (takeE ⟨s, a, 0⟩).e = 0 then takeE ⟨s, a, 0⟩ else ⟨⟨#[]⟩, 0, (takeE ⟨s, a, 0⟩).e⟩)) := Lib.hid ⟨rfl, rfl, rfl, rfl⟩
  clear hs hf
  generalize takeE ⟨s, a, 0⟩ = tE at *
  generalize takeF ⟨s, a, 0⟩ = tF at *
  generalize takeL ⟨s, a, 0⟩ = tL at *
  generalize takeX ⟨s, a, 0⟩ = tX at *
  generalize (fillsX ⟨s, a, 0⟩).1 = Fs at *
  generalize (fillsX ⟨s, a, 0⟩).2 = y at *
  generalize (linesX y).1 = xs at *
  generalize (linesX y).2 = z at *
  obtain ⟨zs, za, ze⟩ := z
  have HL : Hid (∀ bp W, Blk W bp y.cells 79 → Calls Try.prog 43 #[.pointer (some ⟨bp, 0, none⟩), .func (.func 44) #[] #[]] W fun e w' => ∃ v, e = .returned v ∧ OwnP w' W.heap.size 30 v xs ∧ Blk w' bp #[.string zs, .int .i64 za, .int .i64 ze] 79 ∧ But bp bp W w') := HL0
  clear HL0
  generalize y.cells = yc at *
  by_cases he : ze = 0
  · subst he
    have HR : Hid (tF = Fs ∧ tL = xs ∧ tX = ⟨zs, za, 0⟩) := Lib.hid (by
      obtain ⟨h1, h2, h3, h4⟩ := HT.out
      rw [h1, if_pos rfl] at h2 h3 h4
      exact ⟨h2, h3, h4⟩)
    clear HT
    go_enter Try.func20, Try.ntmps20
    go_upto_region 6 with (go_big_may; first
      | (refine wl_box 46 _ _ rfl rfl (show _ = Value.agg #[.string s, .int .i64 a] from rfl) ?_; intro W1 bx Bx_1 l1 k1; have gx : w.heap.size ≤ bx := l1; have Hw1 := k1; clear l1 k1)
      | (refine wl_alloc 46 _ zero51r rfl rfl ?_; intro W2 bo Bo_2 l2 k2; have go : w.heap.size ≤ bo := Nat.le_trans Hw1.size l2; have nxo : bx ≠ bo := Nat.ne_of_lt (Nat.lt_of_lt_of_le Bx_1.lt l2); have Bx_2 := Bx_1.keep k2; have Hw2 := bq_trans Hw1 k2; clear l2 k2 Bx_1 Hw1)
      | (refine wl_load 46 2 _ Try.underlying46 rfl size51r _ rfl rfl _ rfl _ _ Bx_2 rfl ?_)
      | (refine wl_box 79 _ _ rfl rfl (show _ = Value.agg #[.string s, .int .i64 a, .int .i64 0] from rfl) ?_; intro W3 bp Bp_3 l3 k3; have gp : w.heap.size ≤ bp := Nat.le_trans Hw2.size l3; have nxp : bx ≠ bp := Nat.ne_of_lt (Nat.lt_of_lt_of_le Bx_2.lt l3); have nop : bo ≠ bp := Nat.ne_of_lt (Nat.lt_of_lt_of_le Bo_2.lt l3); have Bx_3 := Bx_2.keep k3; have Bo_3 := Bo_2.keep k3; have Hw3 := bq_trans Hw2 k3; clear l3 k3 Bx_2 Bo_2 Hw2)
      | (go_at_call 41; (with_reducible refine (HF0.out _ _ Bp_3).mono ?_); rintro e W4 ⟨fv, rfl, hO, Bp_4, k4⟩; have lpf := Bp_3.lt; have lof := Bo_3.lt; have lef := Hw3.size; have OF := hO.m; clear hO; have Bx_4 := Bx_3.but k4 nxp nxp; have Bo_4 := Bo_3.but k4 nop nop; have Hw4 := k4.below Hw3 gp gp; clear k4 Bx_3 Bo_3 Bp_3 Hw3)
      | (go_at_call 43; (with_reducible refine (HL.out _ _ Bp_4).mono ?_); rintro e W5 ⟨sv, rfl, hO2, Bp_5, k5⟩; have lpl := Bp_4.lt; have lol := Bo_4.lt; have lel := Hw4.size; have OL := hO2.m; clear hO2; have Bx_5 := Bx_4.but k5 nxp nxp; have Bo_5 := Bo_4.but k5 nop nop; have Of_5 := OF.but k5 (Or.inl lpf); have Hw5 := k5.below Hw4 gp gp; clear k5 Bx_4 Bo_4 OF Bp_4 Hw4; have cp_2_5 : W5.cell? ⟨bp, 2, none⟩ = some (.int .i64 0) := Bp_5.cell 2))
    clear cp_2_5
    have HC6 : Hid (∀ w', But bo bo W5 w' → w'.cell? ⟨bp, 0, none⟩ = some (.string zs) ∧ w'.cell? ⟨bp, 1, none⟩ = some (.int .i64 za) ∧ w'.cell? ⟨bp, 2, none⟩ = some (.int .i64 0)) := Lib.hid fun w' hw' => ⟨(Bp_5.but hw' (Ne.symm nop) (Ne.symm nop)).cell 0, (Bp_5.but hw' (Ne.symm nop) (Ne.symm nop)).cell 1, (Bp_5.but hw' (Ne.symm nop) (Ne.symm nop)).cell 2⟩
    have hd6 : Below W5.heap.size W5 W5.drew := bq_drew (bq_refl W5)
    have do0 : W5.cell? ⟨bo, 0, none⟩ = some (.string ⟨#[]⟩) := Bo_5.cell 0
    have fo0 := Bo_5.frozen 0
    have do1 : W5.cell? ⟨bo, 1, none⟩ = some (.int .i64 0) := Bo_5.cell 1
    have fo1 := Bo_5.frozen 1
    go_region_held3 (fun w' => w'.cell? ⟨bp, 0, none⟩ = some (.string zs) ∧ w'.cell? ⟨bp, 1, none⟩ = some (.int .i64 za) ∧ w'.cell? ⟨bp, 2, none⟩ = some (.int .i64 0))
      ((refine HC6.out _ ?_; repeat' (first | (with_reducible refine But.setp _ _ ?_) | (with_reducible refine But.setq _ _ ?_) | (with_reducible refine But.drw ?_) | (with_reducible exact But.of (by assumption)) | (with_reducible exact But.of (bq_refl _)))))
      (fail)
    have Bx_6 := ((Bx_5.other (a := ⟨bo, 0, none⟩) (.string zs) nxo).other (a := ⟨bo, 1, none⟩) (.int .i64 za) nxo).drew
    have Bo_6 : Blk ((W5.setCell ⟨bo, 0, none⟩ (.string zs)).setCell ⟨bo, 1, none⟩ (.int .i64 za)).drew bo #[.string zs, .int .i64 za] 46 := ((Bo_5.set 0 (.string zs)).set 1 (.int .i64 za)).drew
    have Bp_6 := ((Bp_5.other (a := ⟨bo, 0, none⟩) (.string zs) (Ne.symm nop)).other (a := ⟨bo, 1, none⟩) (.int .i64 za) (Ne.symm nop)).drew
    have Hw6 : Below w.heap.size w ((W5.setCell ⟨bo, 0, none⟩ (.string zs)).setCell ⟨bo, 1, none⟩ (.int .i64 za)).drew := bq_drew (bq_set (bq_set Hw5 ⟨bo, 0, none⟩ go (.string zs)) ⟨bo, 1, none⟩ go (.int .i64 za))
    clear HC6 hd6 do0 fo0 do1 fo1 Bx_5 Bo_5 Bp_5 Hw5 
    have HBO : But bo bo W5 ((W5.setCell ⟨bo, 0, none⟩ (.string zs)).setCell ⟨bo, 1, none⟩ (.int .i64 za)).drew := But.drw (But.setp _ _ (But.setp _ _ (but_refl _ _ _)))
    generalize ((W5.setCell ⟨bo, 0, none⟩ (.string zs)).setCell ⟨bo, 1, none⟩ (.int .i64 za)).drew = W6 at HBO Bx_6 Bo_6 Bp_6 Hw6  ⊢
    go_wp2
    exact post_ttct Try.underlying46 rfl size51r Try.results20 Bo_6 rfl rfl rfl rfl rfl rfl ⟨fv, sv, by rw [HR.out.2.2]; rfl, by rw [HR.out.1]; exact ((Of_5.but HBO (Or.inl lof)).f).weaken lef, by rw [HR.out.2.1]; exact (OL.but HBO (Or.inl lol)).1.weaken lel, Hw6⟩
  · have q9 : (ze != 0) = true := by rw [bne_iff_ne]; exact he
    have HR : Hid (tF = [] ∧ tL = [] ∧ tX = ⟨⟨#[]⟩, 0, ze⟩) := Lib.hid (by
      obtain ⟨h1, h2, h3, h4⟩ := HT.out
      rw [h1, if_neg he] at h2 h3 h4
      exact ⟨h2, h3, h4⟩)
    clear HT he
    go_enter Try.func20, Try.ntmps20
    go_upto_region 5 with (go_big_may; first
      | (refine wl_box 46 _ _ rfl rfl (show _ = Value.agg #[.string s, .int .i64 a] from rfl) ?_; intro W1 bx Bx_1 l1 k1; have gx : w.heap.size ≤ bx := l1; have Hw1 := k1; clear l1 k1)
      | (refine wl_alloc 46 _ zero51r rfl rfl ?_; intro W2 bo Bo_2 l2 k2; have go : w.heap.size ≤ bo := Nat.le_trans Hw1.size l2; have nxo : bx ≠ bo := Nat.ne_of_lt (Nat.lt_of_lt_of_le Bx_1.lt l2); have Bx_2 := Bx_1.keep k2; have Hw2 := bq_trans Hw1 k2; clear l2 k2 Bx_1 Hw1)
      | (refine wl_load 46 2 _ Try.underlying46 rfl size51r _ rfl rfl _ rfl _ _ Bx_2 rfl ?_)
      | (refine wl_box 79 _ _ rfl rfl (show _ = Value.agg #[.string s, .int .i64 a, .int .i64 0] from rfl) ?_; intro W3 bp Bp_3 l3 k3; have gp : w.heap.size ≤ bp := Nat.le_trans Hw2.size l3; have nxp : bx ≠ bp := Nat.ne_of_lt (Nat.lt_of_lt_of_le Bx_2.lt l3); have nop : bo ≠ bp := Nat.ne_of_lt (Nat.lt_of_lt_of_le Bo_2.lt l3); have Bx_3 := Bx_2.keep k3; have Bo_3 := Bo_2.keep k3; have Hw3 := bq_trans Hw2 k3; clear l3 k3 Bx_2 Bo_2 Hw2)
      | (go_at_call 41; (with_reducible refine (HF0.out _ _ Bp_3).mono ?_); rintro e W4 ⟨fv, rfl, hO, Bp_4, k4⟩; have lpf := Bp_3.lt; have lof := Bo_3.lt; have lef := Hw3.size; have OF := hO.m; clear hO; have Bx_4 := Bx_3.but k4 nxp nxp; have Bo_4 := Bo_3.but k4 nop nop; have Hw4 := k4.below Hw3 gp gp; clear k4 Bx_3 Bo_3 Bp_3 Hw3)
      | (go_at_call 43; (with_reducible refine (HL.out _ _ Bp_4).mono ?_); rintro e W5 ⟨sv, rfl, hO2, Bp_5, k5⟩; have lpl := Bp_4.lt; have lol := Bo_4.lt; have lel := Hw4.size; have OL := hO2.m; clear hO2; have Bx_5 := Bx_4.but k5 nxp nxp; have Bo_5 := Bo_4.but k5 nop nop; have Of_5 := OF.but k5 (Or.inl lpf); have Hw5 := k5.below Hw4 gp gp; clear k5 Bx_4 Bo_4 OF Bp_4 Hw4; have cp_2_5 : W5.cell? ⟨bp, 2, none⟩ = some (.int .i64 ze) := Bp_5.cell 2))
    clear cp_2_5
    have HC6 : Hid (∀ w', But bo bo W5 w' → w'.cell? ⟨bp, 2, none⟩ = some (.int .i64 ze)) := Lib.hid fun w' hw' => (Bp_5.but hw' (Ne.symm nop) (Ne.symm nop)).cell 2
    have hd6 : Below W5.heap.size W5 W5.drew := bq_drew (bq_refl W5)
    have do0 : W5.cell? ⟨bo, 0, none⟩ = some (.string ⟨#[]⟩) := Bo_5.cell 0
    have fo0 := Bo_5.frozen 0
    have do1 : W5.cell? ⟨bo, 1, none⟩ = some (.int .i64 0) := Bo_5.cell 1
    have fo1 := Bo_5.frozen 1
    go_region_held3 (fun w' => w'.cell? ⟨bp, 2, none⟩ = some (.int .i64 ze))
      ((refine HC6.out _ ?_; repeat' (first | (with_reducible refine But.setp _ _ ?_) | (with_reducible refine But.setq _ _ ?_) | (with_reducible refine But.drw ?_) | (with_reducible exact But.of (by assumption)) | (with_reducible exact But.of (bq_refl _)))))
      (fail)
    have Bx_6 := ((Bx_5.other (a := ⟨bo, 0, none⟩) (.string ⟨#[]⟩) nxo).other (a := ⟨bo, 1, none⟩) (.int .i64 0) nxo).drew
    have Bo_6 : Blk ((W5.setCell ⟨bo, 0, none⟩ (.string ⟨#[]⟩)).setCell ⟨bo, 1, none⟩ (.int .i64 0)).drew bo #[.string ⟨#[]⟩, .int .i64 0] 46 := ((Bo_5.set 0 (.string ⟨#[]⟩)).set 1 (.int .i64 0)).drew
    have Bp_6 := ((Bp_5.other (a := ⟨bo, 0, none⟩) (.string ⟨#[]⟩) (Ne.symm nop)).other (a := ⟨bo, 1, none⟩) (.int .i64 0) (Ne.symm nop)).drew
    have Hw6 : Below w.heap.size w ((W5.setCell ⟨bo, 0, none⟩ (.string ⟨#[]⟩)).setCell ⟨bo, 1, none⟩ (.int .i64 0)).drew := bq_drew (bq_set (bq_set Hw5 ⟨bo, 0, none⟩ go (.string ⟨#[]⟩)) ⟨bo, 1, none⟩ go (.int .i64 0))
    clear HC6 hd6 do0 fo0 do1 fo1 Bx_5 Bo_5 Bp_5 Hw5 
    have HBO : But bo bo W5 ((W5.setCell ⟨bo, 0, none⟩ (.string ⟨#[]⟩)).setCell ⟨bo, 1, none⟩ (.int .i64 0)).drew := But.drw (But.setp _ _ (But.setp _ _ (but_refl _ _ _)))
    generalize ((W5.setCell ⟨bo, 0, none⟩ (.string ⟨#[]⟩)).setCell ⟨bo, 1, none⟩ (.int .i64 0)).drew = W6 at HBO Bx_6 Bo_6 Bp_6 Hw6  ⊢
    go_wp2
    exact post_ttct Try.underlying46 rfl size51r Try.results20 Bo_6 rfl rfl rfl rfl rfl rfl ⟨.slice none 0 0, .slice none 0 0, by rw [HR.out.2.2]; rfl, by rw [HR.out.1]; exact ownF_nil _ _, by rw [HR.out.2.1]; exact ownP_nil _ _ _, Hw6⟩
end Go.Proofs.Ythlnjipefeglpaa
namespace Go.Proofs.Ythlnjipefeglpaa
open Go.RowKit
set_option linter.unusedVariables false
set_option maxRecDepth 100000
theorem size32 : (Try.prog.info? 23).map (·.size) = some 4 := by kernel_rfl
theorem bytes4_run (x y z u : Int) (w : World) : (Instr.buildSlice 96 4 [(0, .int .u8 x), (1, .int .u8 y), (2, .int .u8 z), (3, .int .u8 u)].toArray).run Try.prog w = .ok (.slice (some ⟨w.heap.size, 0, none⟩) 4 4) (w.alloc (.cells #[.int .u8 x, .int .u8 y, .int .u8 z, .int .u8 u] 5)) := by
  obtain ⟨ie, h1, h2⟩ := Option.map_eq_some_iff.1 byte_info
  have hz : ie.zero = some (.int .u8 0) := congrArg (·.1) h2
  have hs : ie.size = 1 := congrArg (·.2.1) h2
  refine run_buildSlice w 96 5 4 _ _ ie (.int .u8 0) Try.underlying96 h1 hz (by rw [hs]; decide) (by rw [hs]; decide) ?_
  rw [hs]; kernel_rfl
def by4 (r g b a : Int) : List UInt8 := [UInt8.ofNat r.toNat, UInt8.ofNat g.toNat, UInt8.ofNat b.toNat, UInt8.ofNat a.toNat]
theorem byte_int (x : Int) (h0 : 0 ≤ x) (h1 : x ≤ 255) : ((UInt8.ofNat x.toNat).toNat : Int) = x := by rw [B.ofNat_toNat _ (by omega)]; omega
theorem by4_str {r g b a : Int} (h : rgbaOk r g b a = true) {W : World} {q : Nat} (hB : Blk W q #[.int .u8 r, .int .u8 g, .int .u8 b, .int .u8 a] 5) : (convert 96 9 (.slice (some ⟨q, 0, none⟩) 4 4)).run Try.prog W = .ok (.string (bs (by4 r g b a))) W := by
  rw [rgba_all] at h
  simp only [byAll, List.all_cons, List.all_nil, Bool.and_true, Bool.and_eq_true, byI, decide_eq_true_eq] at h
  refine BRow.str (l := by4 r g b a) ⟨hB.lt, fun i hi => ?_⟩ 4
  have hi2 : i = 0 ∨ i = 1 ∨ i = 2 ∨ i = 3 := by simp [by4] at hi; omega
  rcases hi2 with rfl | rfl | rfl | rfl
  · exact ⟨by rw [hB.cell]; show some (Value.int .u8 r) = some (.int .u8 ((UInt8.ofNat r.toNat).toNat : Int)); rw [byte_int r (by omega) (by omega)], hB.frozen _⟩
  · exact ⟨by rw [hB.cell]; show some (Value.int .u8 g) = some (.int .u8 ((UInt8.ofNat g.toNat).toNat : Int)); rw [byte_int g (by omega) (by omega)], hB.frozen _⟩
  · exact ⟨by rw [hB.cell]; show some (Value.int .u8 b) = some (.int .u8 ((UInt8.ofNat b.toNat).toNat : Int)); rw [byte_int b (by omega) (by omega)], hB.frozen _⟩
  · exact ⟨by rw [hB.cell]; show some (Value.int .u8 a) = some (.int .u8 ((UInt8.ofNat a.toNat).toNat : Int)); rw [byte_int a (by omega) (by omega)], hB.frozen _⟩
theorem rgba_bd {r g b a : Int} (h : rgbaOk r g b a = true) : (0 ≤ r ∧ r ≤ 255) ∧ (0 ≤ g ∧ g ≤ 255) ∧ (0 ≤ b ∧ b ≤ 255) ∧ (0 ≤ a ∧ a ≤ 255) := by
  rw [rgba_all] at h
  simpa only [byAll, List.all_cons, List.all_nil, Bool.and_true, Bool.and_eq_true, byI, decide_eq_true_eq] using h
set_option maxHeartbeats 1000000 in
theorem putrgba_ok (s : ByteArray) (f r g b a : Int) (w : World) (hs : s.size ≤ 1000000) (h : rgbaOk r g b a = true) :
    Calls Try.prog 51 #[.agg #[.string s, .int .i64 f], .agg #[.int .i64 r, .int .i64 g, .int .i64 b, .int .i64 a]] w fun e w' => e = .returned (.tuple #[.agg #[.string (s ++ bs (by4 r g b a)), .int .i64 0], .int .i64 0]) ∧ Below w.heap.size w w' := by
  obtain ⟨⟨r0, r1⟩, ⟨g0, g1⟩, ⟨b0, b1⟩, ⟨a0, a1⟩⟩ := rgba_bd h
  have HR := fun w => rightrgba_any r g b a w (by unfold I64; omega) (by unfold I64; omega) (by unfold I64; omega) (by unfold I64; omega)
  rw [h] at HR
  have HR2 := Lib.hid HR
  have HK := Lib.hid h
  have HP := Lib.hid (fun W => putbytes_any s (bs (by4 r g b a)) f W (by omega) (by show 4 ≤ 1099511627776; omega))
  clear HR h hs
  go_enter Try.func51, Try.ntmps51
  go_wp2_with (first
    | (refine wl_box 40 _ _ rfl rfl (show _ = Value.agg #[.string s, .int .i64 f] from rfl) ?_; intro W1 bw Bw_1 l1 k1; have gw : w.heap.size ≤ bw := l1; have Hw1 := k1; clear l1 k1)
    | (refine wl_box 23 _ _ rfl rfl (show _ = Value.agg #[.int .i64 r, .int .i64 g, .int .i64 b, .int .i64 a] from rfl) ?_; intro W2 bm Bm_2 l2 k2; have gm : w.heap.size ≤ bm := Nat.le_trans Hw1.size l2; have nwm : bw ≠ bm := Nat.ne_of_lt (Nat.lt_of_lt_of_le Bw_1.lt l2); have Bw_2 := Bw_1.keep k2; have Hw2 := bq_trans Hw1 k2; clear l2 k2 Bw_1 Hw1)
    | (refine wl_alloc 40 _ zero23 rfl rfl ?_; intro W3 br Br_3 l3 k3; have gr : w.heap.size ≤ br := Nat.le_trans Hw2.size l3; have nwr : bw ≠ br := Nat.ne_of_lt (Nat.lt_of_lt_of_le Bw_2.lt l3); have nmr : bm ≠ br := Nat.ne_of_lt (Nat.lt_of_lt_of_le Bm_2.lt l3); have Bw_3 := Bw_2.keep k3; have Bm_3 := Bm_2.keep k3; have Hw3 := bq_trans Hw2 k3; clear l3 k3 Bw_2 Bm_2 Hw2)
    | (refine wl_load 23 4 _ Try.underlying23 rfl size32 _ rfl rfl _ rfl _ _ Bm_3 rfl ?_)
    | (go_at_call 24; (with_reducible refine (HR2.out _).mono ?_); rintro e W4 ⟨rfl, k4⟩; have Bw_4 := Bw_3.keep k4; have Bm_4 := Bm_3.keep k4; have Br_4 := Br_3.keep k4; have Hw4 := bq_trans Hw3 k4; clear k4 Bw_3 Bm_3 Br_3 Hw3; have cm_0_4 : W4.cell? ⟨bm, 0, none⟩ = some (.int .i64 r) := Bm_4.cell 0; have cm_1_4 : W4.cell? ⟨bm, 1, none⟩ = some (.int .i64 g) := Bm_4.cell 1; have cm_2_4 : W4.cell? ⟨bm, 2, none⟩ = some (.int .i64 b) := Bm_4.cell 2; have cm_3_4 : W4.cell? ⟨bm, 3, none⟩ = some (.int .i64 a) := Bm_4.cell 3)
    | (refine wl_load 40 2 _ Try.underlying40 rfl size23 _ rfl rfl _ rfl _ _ Bw_4 rfl ?_)
    | (refine wlg_slice 96 5 4 _ _ (bytes4_run r g b a) _ rfl rfl rfl ?_; intro W5 bq Bq_5 l5 k5; have gq : w.heap.size ≤ bq := Nat.le_trans Hw4.size l5; have nwq : bw ≠ bq := Nat.ne_of_lt (Nat.lt_of_lt_of_le Bw_4.lt l5); have nmq : bm ≠ bq := Nat.ne_of_lt (Nat.lt_of_lt_of_le Bm_4.lt l5); have nrq : br ≠ bq := Nat.ne_of_lt (Nat.lt_of_lt_of_le Br_4.lt l5); have Bw_5 := Bw_4.keep k5; have Bm_5 := Bm_4.keep k5; have Br_5 := Br_4.keep k5; have Hw5 := bq_trans Hw4 k5; clear l5 k5 Bw_4 Bm_4 Br_4 cm_0_4 cm_1_4 cm_2_4 cm_3_4 Hw4; have hcv := by4_str HK.out Bq_5)
    | (go_at_call 34; (with_reducible refine (HP.out _).mono ?_); rintro e W6 ⟨rfl, k6⟩; have Bw_6 := Bw_5.keep k6; have Bm_6 := Bm_5.keep k6; have Br_6 := Br_5.keep k6; have Bq_6 := Bq_5.keep k6; have Hw6 := bq_trans Hw5 k6; clear k6 Bw_5 Bm_5 Br_5 Bq_5 Hw5)
    | (refine wl_store 40 2 size23 _ _ rfl rfl _ rfl _ rfl _ _ Br_6 rfl rfl (by kernel_rfl) ?_; intro W7 Br_7 T7; have Bw_7 := T7.blk Bw_6 nwr; have Bm_7 := T7.blk Bm_6 nmr; have Bq_7 := T7.blk Bq_6 (Ne.symm nrq); have Hw7 := T7.below Hw6 gr; clear T7 Bw_6 Bm_6 Bq_6 Br_6 Hw6))
  exact post_cell_tmp (v := .int .i64 0) Try.underlying40 rfl size23 Try.results51 Br_7 rfl rfl rfl rfl ⟨rfl, Hw7⟩
set_option maxHeartbeats 1000000 in
theorem refputrgba_ok (s : ByteArray) (r g b a : Int) (w : World) (hs : s.size ≤ 1000000) (h : rgbaOk r g b a = true) :
    Calls Try.prog 38 #[.string s, .agg #[.int .i64 r, .int .i64 g, .int .i64 b, .int .i64 a]] w fun e w' => e = .returned (.string (s ++ bs (by4 r g b a))) ∧ Below w.heap.size w w' := by
  obtain ⟨⟨r0, r1⟩, ⟨g0, g1⟩, ⟨b0, b1⟩, ⟨a0, a1⟩⟩ := rgba_bd h
  have HK := Lib.hid h
  have hu : (bs (by4 r g b a)).size ≤ 4 := by show 4 ≤ 4; omega
  clear h
  go_enter Try.func38, Try.ntmps38
  go_wp2_with (first
    | (refine wl_box 23 _ _ rfl rfl (show _ = Value.agg #[.int .i64 r, .int .i64 g, .int .i64 b, .int .i64 a] from rfl) ?_; intro W1 bm Bm_1 l1 k1; have gm : w.heap.size ≤ bm := l1; have Hw1 := k1; clear l1 k1; have cm_0_1 : W1.cell? ⟨bm, 0, none⟩ = some (.int .i64 r) := Bm_1.cell 0; have cm_1_1 : W1.cell? ⟨bm, 1, none⟩ = some (.int .i64 g) := Bm_1.cell 1; have cm_2_1 : W1.cell? ⟨bm, 2, none⟩ = some (.int .i64 b) := Bm_1.cell 2; have cm_3_1 : W1.cell? ⟨bm, 3, none⟩ = some (.int .i64 a) := Bm_1.cell 3)
    | (refine wlg_slice 96 5 4 _ _ (bytes4_run r g b a) _ rfl rfl rfl ?_; intro W2 bq Bq_2 l2 k2; have gq : w.heap.size ≤ bq := Nat.le_trans Hw1.size l2; have nmq : bm ≠ bq := Nat.ne_of_lt (Nat.lt_of_lt_of_le Bm_1.lt l2); have Bm_2 := Bm_1.keep k2; have Hw2 := bq_trans Hw1 k2; clear l2 k2 Bm_1 cm_0_1 cm_1_1 cm_2_1 cm_3_1 Hw1; have hcv := by4_str HK.out Bq_2))
  go_ret
  exact ⟨rfl, Hw2⟩
end Go.Proofs.Ythlnjipefeglpaa
