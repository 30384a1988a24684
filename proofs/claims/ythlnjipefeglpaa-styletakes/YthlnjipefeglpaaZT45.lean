import Derived.Test.YthlnjipefeglpaaZT43
namespace Go.Proofs.Ythlnjipefeglpaa
open Go.RowKit
set_option linter.unusedVariables false
set_option linter.unusedSimpArgs false
set_option maxRecDepth 100000
theorem OwnFM.under {w w' : World} {B M : Nat} {v : Value} {Fs : List FV} (h : OwnFM w B M v Fs) (hb : Below M w w') : OwnFM w' B M v Fs := by
  obtain ⟨svs, h1, h2, h4, h3⟩ := h
  exact ⟨svs, h1, h2.same fun g hg => hb.block g (h4 g hg), h4, fun i g1 g2 => ⟨(h3 i g1 g2).1, ⟨(h3 i g1 g2).2.1.1.same fun g hg => hb.block g ((h3 i g1 g2).2.2 g hg).2, (h3 i g1 g2).2.1.2⟩, (h3 i g1 g2).2.2⟩⟩
theorem OwnF.snoc2 {w w' : World} {B B2 : Nat} {v v' sv : Value} {Fs : List FV} {F : FV} (svs : List Value) (l1 : svs.length = Fs.length) (l2 : OwnC w B 28 14 v (List.zipWith fillC Fs svs)) (l3 : ∀ i (h1 : i < Fs.length) (h2 : i < svs.length), Fs[i].Fit ∧ OwnP w B 65 svs[i] Fs[i].st ∧ ∀ g, svs[i].ownBlock = some g → v.ownBlock ≠ some g)
    (hF : F.Fit) (hs : OwnP w B2 65 sv F.st) (hB : B ≤ B2) (hv : ∀ g, v.ownBlock = some g → g < B2)
    (h2 : OwnC w' B 28 14 v' (List.zipWith fillC Fs svs ++ [fillC F sv])) (hg : w.grownBy w' v.ownBlock) (ha : v'.ownBlock = v.ownBlock ∨ v'.ownBlock = some w.heap.size) : OwnF w' B v' (Fs ++ [F]) := by
  have hsn : ∀ g, sv.ownBlock = some g → v.ownBlock ≠ some g := fun g h1 h2 => by
    have := (hs.1.lt h1).1
    have := hv g h2
    omega
  have keep : ∀ (s : Value) (st : List (List Int)) (B3 : Nat), OwnP w B3 65 s st → (∀ g, s.ownBlock = some g → v.ownBlock ≠ some g) → OwnP w' B3 65 s st ∧ ∀ g, s.ownBlock = some g → v'.ownBlock ≠ some g := fun s st B3 hp hn => by
    refine ⟨⟨hp.1.same fun g h1 => hg.block g (hp.1.lt h1).2 fun e => hn g h1 e.symm, hp.2⟩, fun g h1 h2 => ?_⟩
    rcases ha with ha | ha
    · exact hn g h1 (ha ▸ h2)
    · rw [ha] at h2
      have := (hp.1.lt h1).2
      simp only [Option.some.injEq] at h2
      omega
  refine ⟨svs ++ [sv], by simp [l1], ?_, fun i g1 g2 => ?_⟩
  · rw [List.zipWith_append l1.symm]
    exact h2
  · rcases Nat.lt_or_ge i Fs.length with hi | hi
    · have hi2 : i < svs.length := by omega
      rw [List.getElem_append_left hi, List.getElem_append_left hi2]
      obtain ⟨k1, k2, k3⟩ := l3 i hi hi2
      exact ⟨k1, keep _ _ _ k2 k3⟩
    · have hi2 : i = Fs.length := by simp at g1; omega
      subst hi2
      have e1 : (Fs ++ [F])[Fs.length] = F := by simp
      have e2 : (svs ++ [sv])[Fs.length] = sv := by rw [List.getElem_append_right (by omega)]; simp
      rw [e1, e2]
      exact ⟨hF, keep _ _ _ (hs.weaken hB) hsn⟩
theorem post_ttc {P : Program} {fn : Func} {p u v : Tmp} {ty : TypeId} {a : Act} {W : World} {R : Ending → World → Prop} {n : Nat} {d : TypeDesc}
    (hu : P.underlying ty = some d) (hd : (match d with | .struct _ | .array _ _ => true | _ => false) = true) (hi : (P.info? ty).map (·.size) = some n)
    (hres : fn.results = #[.tmp u, .tmp v, .cell p ty]) {b : Nat} {cs : Array Value} {t : TypeId} (hB : Blk W b cs t) (hn : cs.size = n)
    (hp : a.tmps[p]?.getD undef = .pointer (some ⟨b, 0, none⟩)) {x y : Value} (hx : a.tmps[u]?.getD undef = x) (hy : a.tmps[v]?.getD undef = y) (hdf : a.defers = []) (hR : R (.returned (.tuple #[x, y, .agg cs])) W) : bodyPost P fn R .ret a W := by
  refine bodyPost_ret (v := .tuple #[x, y, .agg cs]) ?_ hdf hR
  simp only [results, hres]
  simp [Sem.run_bind, Result.andThen, hp, hx, hy, asAddr, run_loadVar_row W b t ty cs (0, 0) d hB hu hd (by rw [hi, hn])]
theorem size36t : (Try.prog.info? 30).map (·.size) = some 5 := by kernel_rfl
theorem zeroSKt (w : World) : (zeroValue 30).run Try.prog w = .ok (.agg #[.int .i64 0, .int .i64 0, .int .i64 0, .int .i64 0, .int .i64 0]) w := Try.zeroValue30 w
theorem OwnF.weaken {w : World} {B B' : Nat} {v : Value} {Fs : List FV} (h : OwnF w B v Fs) (hB : B' ≤ B) : OwnF w B' v Fs := by
  obtain ⟨svs, h1, h2, h3⟩ := h
  exact ⟨svs, h1, h2.weaken hB, fun i g1 g2 => ⟨(h3 i g1 g2).1, (h3 i g1 g2).2.1.weaken hB, (h3 i g1 g2).2.2⟩⟩
theorem RS.dem_b (x : RS) (c : Bool) (e : Int) : x.dem c e = if (decide (x.e = 0) && c) = true then ⟨x.s, x.a, e⟩ else x := by
  unfold RS.dem
  by_cases h : x.e = 0
  · cases c <;> simp [h]
  · simp [h]
theorem fills_err {u : RS} (h : u.e ≠ 0) (k : Nat) : fillsT u k = ([], u) := by
  have := fills_stuck (x := u) (k := 0) h k
  rwa [Nat.zero_add] at this
theorem lines_err {u : RS} (h : u.e ≠ 0) (k : Nat) : linesT u k = ([], u) := by
  have := lines_stuck (x := u) (k := 0) h k
  rwa [Nat.zero_add] at this
theorem linesX_err {u : RS} (h : u.e ≠ 0) : linesX u = ([], u) := by
  have e1 : u.li 1 = 0 := if_neg h
  have e2 : u.liS 1 = u := if_neg h
  unfold linesX cntX
  rw [e1, e2, RS.dem_err h, lines_err h]
def TfRel (w : World) (WB : Nat) (u : RS) (N bx bo : Nat) (v i : Value) (wr : World) : Prop :=
  ∃ (k : Nat) (v' : Value), v' = v ∧ k ≤ N ∧ i = .int .i64 k ∧ Blk wr bx (fillsT u k).2.cells 53 ∧ Blk wr bo #[.string ⟨#[]⟩, .int .i64 0, .int .i64 0] 53 ∧ OwnF wr WB v' (fillsT u k).1 ∧ (fillsT u k).1.length = k ∧ Below w.heap.size w wr ∧ WB ≤ wr.heap.size
def TlRel (w : World) (WA WB : Nat) (fv : Value) (Fs : List FV) (u : RS) (N bx bo : Nat) (v i : Value) (wr : World) : Prop :=
  ∃ (k : Nat) (v' : Value), v' = v ∧ k ≤ N ∧ i = .int .i64 k ∧ Blk wr bx (linesT u k).2.cells 53 ∧ Blk wr bo #[.string ⟨#[]⟩, .int .i64 0, .int .i64 0] 53 ∧ OwnFM wr WA WB fv Fs ∧ OwnP wr WB 30 v' (linesT u k).1 ∧ (linesT u k).1.length = k ∧ Below w.heap.size w wr ∧ WB ≤ wr.heap.size
set_option maxHeartbeats 8000000 in
theorem rtake8_any (x : RS) (w : World) (hs : x.s.size ≤ 1000000) :
    Calls Try.prog 22 #[.agg x.cells] w fun e w' => ∃ fv sv, e = .returned (.tuple #[fv, sv, .agg (takeX x).cells]) ∧ OwnF w' w.heap.size fv (takeF x) ∧ OwnP w' w.heap.size 30 sv (takeL x) ∧ Below w.heap.size w w' := by
  have HL := Lib.hid (fun W => rlittle8_any x 1 W hs (by decide) (by decide))
  have hcs := cntX_size hs
  have HVB := li1_bd x
  have Hcnt : Hid (cntX x = (x.liS 1).dem (decide (15 < x.li 1)) 7) := Lib.hid rfl
  have HTk : Hid (takeE x = (linesX (fillsT (cntX x) (x.li 1).toNat).2).2 ∧ takeF x = (if (takeE x).e = 0 then (fillsT (cntX x) (x.li 1).toNat).1 else []) ∧ takeL x = (if (takeE x).e = 0 then (linesX (fillsT (cntX x) (x.li 1).toNat).2).1 else []) ∧ takeX x = (if (takeE x).e = 0 then takeE x else ⟨⟨#[]⟩, 0, (takeE x).e⟩)) := Lib.hid ⟨rfl, rfl, rfl, rfl⟩
  generalize takeE x = tE at *
  generalize takeF x = tF at *
  generalize takeL x = tL at *
  generalize takeX x = tX at *
  obtain ⟨n, hn⟩ : ∃ n : Nat, x.li 1 = (n : Int) := ⟨(x.li 1).toNat, by omega⟩
  rw [hn] at HL HVB HTk Hcnt
  have hnn : ((n : Nat) : Int).toNat = n := by omega
  rw [hnn] at HTk
  have hn1 : n ≤ 255 := by omega
  clear hn HVB hnn
  generalize cntX x = u at *
  generalize x.liS 1 = y at *
  obtain ⟨xs, xa, xe⟩ := x
  obtain ⟨ys, ya, ye⟩ := y
  have HL2 : Hid (∀ W, Calls Try.prog 45 #[.agg #[.string xs, .int .i64 xa, .int .i64 xe], .int .i64 1] W fun e w' => e = .returned (.tuple #[.int .i64 (n : Int), .agg #[.string ys, .int .i64 ya, .int .i64 ye]]) ∧ Below W.heap.size W w') := HL
  clear hs HL
  go_enter Try.func22, Try.ntmps22
  go_upto_region 5 with (go_big_may; first
    | (refine wl_box 53 _ _ rfl rfl (show _ = Value.agg #[.string xs, .int .i64 xa, .int .i64 xe] from rfl) ?_; intro W1 bx Bx_1 l1 k1; have gx : w.heap.size ≤ bx := l1; have Hw1 := k1; clear l1 k1)
    | (refine wl_alloc 53 _ zero62 rfl rfl ?_; intro W2 bo Bo_2 l2 k2; have go : w.heap.size ≤ bo := Nat.le_trans Hw1.size l2; have nxo : bx ≠ bo := Nat.ne_of_lt (Nat.lt_of_lt_of_le Bx_1.lt l2); have Bx_2 := Bx_1.keep k2; have Hw2 := bq_trans Hw1 k2; clear l2 k2 Bx_1 Hw1)
    | (refine wl_load 53 3 _ Try.underlying53 rfl size62 _ rfl rfl _ rfl _ _ Bx_2 rfl ?_)
    | (go_at_call 45; (with_reducible refine (HL2.out _).mono ?_); rintro e W3 ⟨rfl, k3⟩; have Bx_3 := Bx_2.keep k3; have Bo_3 := Bo_2.keep k3; have Hw3 := bq_trans Hw2 k3; clear k3 Bx_2 Bo_2 Hw2)
    | (refine wl_store 53 3 size62 _ _ rfl rfl _ rfl #[.string ys, .int .i64 ya, .int .i64 ye] rfl _ _ Bx_3 rfl rfl (by kernel_rfl) ?_; intro W4 Bx_4 T4; have Bo_4 := T4.blk Bo_3 (Ne.symm nxo); have Hw4 := T4.below Hw3 gx; clear T4 Bo_3 Bx_3 Hw3; have cx_2_4 : W4.cell? ⟨bx, 2, none⟩ = some (.int .i64 ye) := Bx_4.cell 2))
  try simp only [Act.put, List.setIfInBounds_toArray, List.set_cons_zero, List.set_cons_succ]
  go_cut [17, 18, 19, 20, 21, 22, 23] (fun _ _ _ _ _ _ c wx => c = .bool (decide (ye = 0) && decide (15 < (n : Int))) ∧ W4 = wx)
  case first =>
    by_cases he : ye = 0
    · have q1 : (ye == 0) = true := beq_iff_eq.2 he
      have q2 : (decide (ye = 0) && decide (15 < (n : Int))) = decide (15 < (n : Int)) := by rw [decide_eq_true he]; rfl
      have HQ2 := Lib.hid q2
      clear q2 he
      go_wp2_with fail
      go_meet
      case rel => exact ⟨congrArg Value.bool HQ2.out.symm, rfl⟩
    · have q1 : (ye == 0) = false := beq_eq_false_iff_ne.2 he
      have q2 : (decide (ye = 0) && decide (15 < (n : Int))) = false := by rw [decide_eq_false he]; rfl
      have HQ2 := Lib.hid q2
      clear q2 he
      go_wp2_with fail
      go_meet
      case rel => exact ⟨congrArg Value.bool HQ2.out.symm, rfl⟩
  case rest =>
    obtain ⟨rfl, rfl⟩ := hcut
    generalize hc : (decide (ye = 0) && decide (15 < (n : Int))) = c at *
    have Hu : Hid (u = if c = true then ⟨ys, ya, 7⟩ else ⟨ys, ya, ye⟩) := Lib.hid (by rw [Hcnt.out, RS.dem_b]; show (if (decide (ye = 0) && decide (15 < (n : Int))) = true then _ else _) = _; rw [hc])
    clear Hcnt
    cases c
    rotate_left
    · have he0 : ye = 0 := by
        rw [Bool.and_eq_true] at hc
        exact of_decide_eq_true hc.1
      have Hu2 : Hid (u = ⟨ys, ya, 7⟩) := Lib.hid (Hu.out.trans (if_pos rfl))
      have HL7 : Hid (∀ W, Calls Try.prog 45 #[.agg #[.string ys, .int .i64 ya, .int .i64 7], .int .i64 1] W fun e w' => e = .returned (.tuple #[.int .i64 0, .agg #[.string ys, .int .i64 ya, .int .i64 7]]) ∧ Below W.heap.size W w') := Lib.hid fun W => rlittle_err ys ya 7 1 W rfl
      have HR : Hid (tF = [] ∧ tL = [] ∧ tX = ⟨⟨#[]⟩, 0, 7⟩) := Lib.hid (by
        obtain ⟨h1, h2, h3, h4⟩ := HTk.out
        rw [Hu2.out, fills_err (show (7 : Int) ≠ 0 by decide), linesX_err (show (7 : Int) ≠ 0 by decide)] at h1
        rw [h1] at h2 h3 h4
        exact ⟨h2, h3, h4⟩)
      clear hc Hu HTk Hu2 he0
      go_upto_region 7 with (go_big_may; first
        | (refine wl_set 3 _ _ rfl rfl bx 2 rfl (.int .i64 7) rfl rfl size3s _ _ Bx_4 (by decide : 2 < 3) ?_; intro W21 Bx_21 T21; have Bo_21 := T21.blk Bo_4 (Ne.symm nxo); have Hw21 := T21.below Hw4 gx; clear T21 Bo_4 cx_2_4 Bx_4 Hw4; have cx_2_21 : W21.cell? ⟨bx, 2, none⟩ = some (.int .i64 7) := Bx_21.cell 2))
      go_wp2_with fail
      generalize W21 = WB at *
      go_loopw [5, 8, 9] (fun a0 a1 _ wq => .slice none 0 0 = a0 ∧ .int .i64 0 = a1 ∧ WB = wq) (fun _ _ _ _ => 0)
      case atStart => exact ⟨rfl, rfl, rfl⟩
      case round =>
        obtain ⟨rfl, rfl, rfl⟩ := hrel
        by_cases hlt : (0 : Int) < (n : Int)
        · go_wp2_with (first
            | (refine wl_load 53 3 _ Try.underlying53 rfl size62 _ rfl rfl _ rfl _ _ Bx_21 rfl ?_)
            | (go_at_call 45; (with_reducible refine (HL7.out _).mono ?_); rintro e W22 ⟨rfl, k22⟩; have Bx_22 := Bx_21.keep k22; have Bo_22 := Bo_21.keep k22; have Hw22 := bq_trans Hw21 k22; clear k22 Bx_21 Bo_21 cx_2_21 Hw21)
            | (refine wl_store 53 3 size62 _ _ rfl rfl _ rfl #[.string ys, .int .i64 ya, .int .i64 7] rfl _ _ Bx_22 rfl rfl (by kernel_rfl) ?_; intro W23 Bx_23 T23; have Bo_23 := T23.blk Bo_22 (Ne.symm nxo); have Hw23 := T23.below Hw22 gx; clear T23 Bo_22 Bx_22 Hw22; have cx_2_23 : W23.cell? ⟨bx, 2, none⟩ = some (.int .i64 7) := Bx_23.cell 2))
          generalize W23 = WC at *
          go_loopw [6, 10, 11] (fun a0 a1 _ wq => .slice none 0 0 = a0 ∧ .int .i64 0 = a1 ∧ WC = wq) (fun _ _ _ _ => 0)
          case atStart => exact ⟨rfl, rfl, rfl⟩
          case round =>
            obtain ⟨rfl, rfl, rfl⟩ := hrel
            go_wp2_with fail
            clear cx_2_23
            have HW9 := Lib.hid Hw23
            clear Hw23
            have HC24 : Hid (∀ w', But bo bo WC w' → w'.cell? ⟨bx, 2, none⟩ = some (.int .i64 7)) := Lib.hid fun w' hw' => (Bx_23.but hw' nxo nxo).cell 2
            have hd24 : Below WC.heap.size WC WC.drew := bq_drew (bq_refl WC)
            have do0 : WC.cell? ⟨bo, 0, none⟩ = some (.string ⟨#[]⟩) := Bo_23.cell 0
            have fo0 := Bo_23.frozen 0
            have do1 : WC.cell? ⟨bo, 1, none⟩ = some (.int .i64 0) := Bo_23.cell 1
            have fo1 := Bo_23.frozen 1
            have do2 : WC.cell? ⟨bo, 2, none⟩ = some (.int .i64 0) := Bo_23.cell 2
            have fo2 := Bo_23.frozen 2
            go_region_held3 (fun w' => w'.cell? ⟨bx, 2, none⟩ = some (.int .i64 7))
              ((refine HC24.out _ ?_; repeat' (first | (with_reducible refine But.setp _ _ ?_) | (with_reducible refine But.setq _ _ ?_) | (with_reducible refine But.drw ?_) | (with_reducible exact But.of (by assumption)) | (with_reducible exact But.of (bq_refl _)))))
              (fail)
            have Bx_24 := (((Bx_23.other (a := ⟨bo, 0, none⟩) (.string ⟨#[]⟩) nxo).other (a := ⟨bo, 1, none⟩) (.int .i64 0) nxo).other (a := ⟨bo, 2, none⟩) (.int .i64 7) nxo).drew
            have Bo_24 : Blk (((WC.setCell ⟨bo, 0, none⟩ (.string ⟨#[]⟩)).setCell ⟨bo, 1, none⟩ (.int .i64 0)).setCell ⟨bo, 2, none⟩ (.int .i64 7)).drew bo #[.string ⟨#[]⟩, .int .i64 0, .int .i64 7] 53 := (((Bo_23.set 0 (.string ⟨#[]⟩)).set 1 (.int .i64 0)).set 2 (.int .i64 7)).drew
            have Hw24 : Below w.heap.size w (((WC.setCell ⟨bo, 0, none⟩ (.string ⟨#[]⟩)).setCell ⟨bo, 1, none⟩ (.int .i64 0)).setCell ⟨bo, 2, none⟩ (.int .i64 7)).drew := bq_drew (bq_set (bq_set (bq_set HW9.out ⟨bo, 0, none⟩ go (.string ⟨#[]⟩)) ⟨bo, 1, none⟩ go (.int .i64 0)) ⟨bo, 2, none⟩ go (.int .i64 7))
            clear HC24 hd24 do0 fo0 do1 fo1 do2 fo2 Bx_23 Bo_23 
            generalize (((WC.setCell ⟨bo, 0, none⟩ (.string ⟨#[]⟩)).setCell ⟨bo, 1, none⟩ (.int .i64 0)).setCell ⟨bo, 2, none⟩ (.int .i64 7)).drew = W24 at Bx_24 Bo_24 Hw24  ⊢
            go_wp2
            exact post_ttc Try.underlying53 rfl size62 Try.results22 Bo_24 rfl rfl rfl rfl rfl ⟨.slice none 0 0, .slice none 0 0, by rw [HR.out.2.2]; rfl, by rw [HR.out.1]; exact ownF_nil _ _, by rw [HR.out.2.1]; exact ownP_nil _ _ _, Hw24⟩
        · go_wp2_with (first
            | (refine wl_load 53 3 _ Try.underlying53 rfl size62 _ rfl rfl _ rfl _ _ Bx_21 rfl ?_)
            | (go_at_call 45; (with_reducible refine (HL7.out _).mono ?_); rintro e W22 ⟨rfl, k22⟩; have Bx_22 := Bx_21.keep k22; have Bo_22 := Bo_21.keep k22; have Hw22 := bq_trans Hw21 k22; clear k22 Bx_21 Bo_21 cx_2_21 Hw21)
            | (refine wl_store 53 3 size62 _ _ rfl rfl _ rfl #[.string ys, .int .i64 ya, .int .i64 7] rfl _ _ Bx_22 rfl rfl (by kernel_rfl) ?_; intro W23 Bx_23 T23; have Bo_23 := T23.blk Bo_22 (Ne.symm nxo); have Hw23 := T23.below Hw22 gx; clear T23 Bo_22 Bx_22 Hw22; have cx_2_23 : W23.cell? ⟨bx, 2, none⟩ = some (.int .i64 7) := Bx_23.cell 2))
          generalize W23 = WC at *
          go_loopw [6, 10, 11] (fun a0 a1 _ wq => .slice none 0 0 = a0 ∧ .int .i64 0 = a1 ∧ WC = wq) (fun _ _ _ _ => 0)
          case atStart => exact ⟨rfl, rfl, rfl⟩
          case round =>
            obtain ⟨rfl, rfl, rfl⟩ := hrel
            go_wp2_with fail
            clear cx_2_23
            have HW9 := Lib.hid Hw23
            clear Hw23
            have HC24 : Hid (∀ w', But bo bo WC w' → w'.cell? ⟨bx, 2, none⟩ = some (.int .i64 7)) := Lib.hid fun w' hw' => (Bx_23.but hw' nxo nxo).cell 2
            have hd24 : Below WC.heap.size WC WC.drew := bq_drew (bq_refl WC)
            have do0 : WC.cell? ⟨bo, 0, none⟩ = some (.string ⟨#[]⟩) := Bo_23.cell 0
            have fo0 := Bo_23.frozen 0
            have do1 : WC.cell? ⟨bo, 1, none⟩ = some (.int .i64 0) := Bo_23.cell 1
            have fo1 := Bo_23.frozen 1
            have do2 : WC.cell? ⟨bo, 2, none⟩ = some (.int .i64 0) := Bo_23.cell 2
            have fo2 := Bo_23.frozen 2
            go_region_held3 (fun w' => w'.cell? ⟨bx, 2, none⟩ = some (.int .i64 7))
              ((refine HC24.out _ ?_; repeat' (first | (with_reducible refine But.setp _ _ ?_) | (with_reducible refine But.setq _ _ ?_) | (with_reducible refine But.drw ?_) | (with_reducible exact But.of (by assumption)) | (with_reducible exact But.of (bq_refl _)))))
              (fail)
            have Bx_24 := (((Bx_23.other (a := ⟨bo, 0, none⟩) (.string ⟨#[]⟩) nxo).other (a := ⟨bo, 1, none⟩) (.int .i64 0) nxo).other (a := ⟨bo, 2, none⟩) (.int .i64 7) nxo).drew
            have Bo_24 : Blk (((WC.setCell ⟨bo, 0, none⟩ (.string ⟨#[]⟩)).setCell ⟨bo, 1, none⟩ (.int .i64 0)).setCell ⟨bo, 2, none⟩ (.int .i64 7)).drew bo #[.string ⟨#[]⟩, .int .i64 0, .int .i64 7] 53 := (((Bo_23.set 0 (.string ⟨#[]⟩)).set 1 (.int .i64 0)).set 2 (.int .i64 7)).drew
            have Hw24 : Below w.heap.size w (((WC.setCell ⟨bo, 0, none⟩ (.string ⟨#[]⟩)).setCell ⟨bo, 1, none⟩ (.int .i64 0)).setCell ⟨bo, 2, none⟩ (.int .i64 7)).drew := bq_drew (bq_set (bq_set (bq_set HW9.out ⟨bo, 0, none⟩ go (.string ⟨#[]⟩)) ⟨bo, 1, none⟩ go (.int .i64 0)) ⟨bo, 2, none⟩ go (.int .i64 7))
            clear HC24 hd24 do0 fo0 do1 fo1 do2 fo2 Bx_23 Bo_23 
            generalize (((WC.setCell ⟨bo, 0, none⟩ (.string ⟨#[]⟩)).setCell ⟨bo, 1, none⟩ (.int .i64 0)).setCell ⟨bo, 2, none⟩ (.int .i64 7)).drew = W24 at Bx_24 Bo_24 Hw24  ⊢
            go_wp2
            exact post_ttc Try.underlying53 rfl size62 Try.results22 Bo_24 rfl rfl rfl rfl rfl ⟨.slice none 0 0, .slice none 0 0, by rw [HR.out.2.2]; rfl, by rw [HR.out.1]; exact ownF_nil _ _, by rw [HR.out.2.1]; exact ownP_nil _ _ _, Hw24⟩
    · have Hu2 : Hid (u = ⟨ys, ya, ye⟩) := Lib.hid (Hu.out.trans (if_neg (by decide)))
      have BXu : Blk W4 bx u.cells 53 := by rw [Hu2.out]; exact Bx_4
      have BOu := Bo_4
      have HWu := Hw4
      clear hc Hu Hu2 Bx_4 Bo_4 Hw4 cx_2_4
      generalize W4 = WA at *
      have HUS := Lib.hid hcs
      have ltxA := BXu.lt
      have ltoA := BOu.lt
      have leA := HWu.size
      clear hcs
      go_wp2_with fail
      go_loopw [5, 8, 9] (fun v i _ wr => TfRel w WA.heap.size u n bx bo v i wr) (fun _ i _ _ => n - (intOf i).toNat)
      case atStart => exact ⟨0, _, rfl, by omega, rfl, BXu, BOu, ownF_nil _ _, rfl, HWu, Nat.le_refl _⟩
      case round =>
        obtain ⟨k, v, hv, hk, rfl, BX, BO, hown, hlen, hbel, hWB⟩ := hrel
        subst hv
        clear BXu BOu HWu
        have HEX : Hid (n ≤ k ∨ (fillsT u k).2.e ≠ 0 → fillsT u n = fillsT u k) := Lib.hid (fun h => by
          by_cases hkn : n ≤ k
          · rw [show n = k by omega]
          · have := fills_stuck (h.resolve_left hkn) (n - k)
            rwa [show k + (n - k) = n by omega] at this)
        have hps : (fillsT u k).2.s.size ≤ 1000000 := fillsT_size HUS.out k
        have HST : Hid (∀ L y, fillsT u k = (L, y) → y.e = 0 → fillsT u (k + 1) = (L ++ [(fillT y).1], (fillT y).2)) := Lib.hid (fun L y h he => by
          show fillStep (fillsT u k) = _
          rw [h]
          exact if_pos he)
        obtain ⟨L, y, hLy⟩ : ∃ L y, fillsT u k = (L, y) := ⟨_, _, rfl⟩
        have HST2 := Lib.hid (HST.out L y hLy)
        rw [hLy] at BX hown hlen hps HEX
        clear HST hLy
        dsimp only at BX hown hlen hps HEX
        obtain ⟨ps, pa, pe⟩ := y
        have HB := Lib.hid hbel
        have HWB := Lib.hid hWB
        have cx2 : wr.cell? ⟨bx, 2, none⟩ = some (.int .i64 pe) := BX.cell 2
        clear hbel hWB
        by_cases hlt : k < n
        · by_cases he : pe = 0
          · subst he
            have HST3 := Lib.hid (HST2.out rfl)
            have HF0 := Lib.hid (fun W => rfill_any ⟨ps, pa, 0⟩ W hps)
            have hfit := fillT_fit ⟨ps, pa, 0⟩
            unfold FillPost at HF0
            clear HST2 HEX hps HTk
            generalize fillT ⟨ps, pa, 0⟩ = FZ at *
            obtain ⟨F, z⟩ := FZ
            obtain ⟨fk, fc, fm, sp, st, id⟩ := F
            have lc := hfit.c
            have lm := hfit.m
            dsimp only at lc lm HF0
            obtain ⟨r, g, b, a, rfl⟩ := list4 fc lc
            obtain ⟨m0, m1, m2, m3, m4, m5, rfl⟩ := list6 fm lm
            obtain ⟨zs, za, ze⟩ := z
            have HFit := Lib.hid hfit
            have HF : Hid (∀ W, Calls Try.prog 46 #[.agg #[.string ps, .int .i64 pa, .int .i64 0]] W fun e w' => ∃ sa sn sc, e = .returned (.tuple #[.agg #[.int .i64 fk, .int .i64 r, .int .i64 g, .int .i64 b, .int .i64 a, .int .i64 m0, .int .i64 m1, .int .i64 m2, .int .i64 m3, .int .i64 m4, .int .i64 m5, .int .i64 sp, .slice sa sn sc, .int .i64 id], .agg #[.string zs, .int .i64 za, .int .i64 ze]]) ∧ OwnP w' W.heap.size 65 (.slice sa sn sc) st ∧ Below W.heap.size W w') := Lib.hid fun W => (HF0.out W).mono fun e w' ⟨sv, h1, h2, h3⟩ => by
              obtain ⟨sa, sc, hsv⟩ := h2.1.slice
              subst hsv
              exact ⟨sa, _, sc, h1, h2, h3⟩
            have HLE : Hid (L.length ≤ 1000000) := Lib.hid (by omega)
            have OM : OwnFM wr WA.heap.size wr.heap.size v L := hown.m
            have SM : SzM wr WA.heap.size wr.heap.size := ⟨Nat.le_refl _⟩
            have HBw := HB.out
            have HLN := Lib.hid hlen
            have BX1 : Blk wr bx #[.string ps, .int .i64 pa, .int .i64 0] 53 := BX
            have i2 : (k : Int) < (n : Int) := by omega
            clear HF0 hfit lc lm hown hlen HB BX
            go_upto_region 12 with (go_big_may; first
              | (refine wl_alloc 28 _ zeroFL8 rfl rfl ?_; intro W41 bs Bs_41 l41 k41; have gs : w.heap.size ≤ bs := Nat.le_trans HBw.size l41; have nxs : bx ≠ bs := Nat.ne_of_lt (Nat.lt_of_lt_of_le BX1.lt l41); have nos : bo ≠ bs := Nat.ne_of_lt (Nat.lt_of_lt_of_le BO.lt l41); have los := Nat.le_trans SM.le l41; have Bx_41 := BX1.keep k41; have Bo_41 := BO.keep k41; have Ov_41 := OM.keep k41; have Om_41 := SM.keep k41; have Hw41 := bq_trans HBw k41; clear l41 k41 BX1 BO OM SM HBw)
              | (refine wl_store 28 14 size28g8 _ _ rfl rfl _ rfl #[.int .i64 0, .int .i64 0, .int .i64 0, .int .i64 0, .int .i64 0, .int .i64 0, .int .i64 0, .int .i64 0, .int .i64 0, .int .i64 0, .int .i64 0, .int .i64 0, .slice none 0 0, .int .i64 0] rfl _ _ Bs_41 rfl rfl (by kernel_rfl) ?_; intro W42 Bs_42 T42; have Bx_42 := T42.blk Bx_41 nxs; have Bo_42 := T42.blk Bo_41 nos; have Ov_42 := Ov_41.turned T42 (Or.inr los); have Om_42 := Om_41.turned T42 (Or.inr los); have Hw42 := T42.below Hw41 gs; clear T42 Bx_41 Bo_41 Ov_41 Om_41 Bs_41 Hw41)
              | (refine wl_load 53 3 _ Try.underlying53 rfl size62 _ rfl rfl _ rfl _ _ Bx_42 rfl ?_)
              | (go_at_call 46; (with_reducible refine (HF.out _).mono ?_); rintro e W43 ⟨sa, sn, sc, rfl, hO, k43⟩; have Bx_43 := Bx_42.keep k43; have Bo_43 := Bo_42.keep k43; have Bs_43 := Bs_42.keep k43; have Ov_43 := Ov_42.keep k43; have Om_43 := Om_42.keep k43; have Hw43 := bq_trans Hw42 k43; have lxs := Bx_42.lt; have lss := Bs_42.lt; have leB := Nat.le_trans HWB.out Om_42.le; have leM := Om_42.le; have OS := hO.m; clear hO; clear k43 Bx_42 Bo_42 Bs_42 Ov_42 Om_42 Hw42)
              | (refine wl_store 28 14 size28g8 _ _ rfl rfl _ rfl #[.int .i64 fk, .int .i64 r, .int .i64 g, .int .i64 b, .int .i64 a, .int .i64 m0, .int .i64 m1, .int .i64 m2, .int .i64 m3, .int .i64 m4, .int .i64 m5, .int .i64 sp, .slice sa sn sc, .int .i64 id] rfl _ _ Bs_43 rfl rfl (by kernel_rfl) ?_; intro W44 Bs_44 T44; have Bx_44 := T44.blk Bx_43 nxs; have Bo_44 := T44.blk Bo_43 nos; have Ov_44 := Ov_43.turned T44 (Or.inr los); have Om_44 := Om_43.turned T44 (Or.inr los); have Os_44 := OS.turned T44 (Or.inl lss); have Hw44 := T44.below Hw43 gs; clear T44 Bx_43 Bo_43 Ov_43 Om_43 OS Bs_43 Hw43)
              | (refine wl_store 53 3 size62 _ _ rfl rfl _ rfl #[.string zs, .int .i64 za, .int .i64 ze] rfl _ _ Bx_44 rfl rfl (by kernel_rfl) ?_; intro W45 Bx_45 T45; have Bo_45 := T45.blk Bo_44 (Ne.symm nxo); have Bs_45 := T45.blk Bs_44 (Ne.symm nxs); have Ov_45 := Ov_44.turned T45 (Or.inl ltxA); have Om_45 := Om_44.turned T45 (Or.inl ltxA); have Os_45 := Os_44.turned T45 (Or.inl lxs); have Hw45 := T45.below Hw44 gx; clear T45 Bo_44 Bs_44 Ov_44 Om_44 Os_44 Bx_44 Hw44))
            go_wp2_with (first
              | (refine wl_load 28 14 _ Try.underlying28 rfl size28g8 _ rfl rfl _ rfl _ _ Bs_45 rfl ?_)
              | (refine wlg_slice 36 28 1 _ _ (fill1_run fk r g b a m0 m1 m2 m3 m4 m5 sp id sa sn sc) _ rfl rfl rfl ?_; intro W46 bn Bn_46 l46 k46; have gn : w.heap.size ≤ bn := Nat.le_trans Hw45.size l46; have nxn : bx ≠ bn := Nat.ne_of_lt (Nat.lt_of_lt_of_le Bx_45.lt l46); have non : bo ≠ bn := Nat.ne_of_lt (Nat.lt_of_lt_of_le Bo_45.lt l46); have nsn : bs ≠ bn := Nat.ne_of_lt (Nat.lt_of_lt_of_le Bs_45.lt l46); have lon := Nat.le_trans Om_45.le l46; have Bx_46 := Bx_45.keep k46; have Bo_46 := Bo_45.keep k46; have Bs_46 := Bs_45.keep k46; have Ov_46 := Ov_45.keep k46; have Om_46 := Om_45.keep k46; have Os_46 := Os_45.keep k46; have Hw46 := bq_trans Hw45 k46; clear l46 k46 Bx_45 Bo_45 Bs_45 Ov_45 Om_45 Os_45 Hw45)
              | (obtain ⟨svs, l1, l2, l4, l3⟩ := Ov_46; refine wl_appC 36 28 14 _ Try.underlying36 fl_info rfl (by decide) _ _ rfl rfl WA.heap.size _ rfl _ l2 bn 1 _ _ rfl Bn_46 rfl (by kernel_rfl) (by rw [List.length_zipWith, l1, Nat.min_self]; exact HLE.out) (Nat.le_trans HWB.out Om_46.le) ?_; intro vn W47 hO k47 hgr hat; have Bx_47 := Bx_46.under k47 ltxA; have Bo_47 := Bo_46.under k47 ltoA; have Hw47 := Hw46.trans (k47.mono leA); have Ov := OwnF.snoc2 svs l1 l2 (fun i g1 g2 => ⟨(l3 i g1 g2).1, (l3 i g1 g2).2.1, fun g hg => ((l3 i g1 g2).2.2 g hg).1⟩) HFit.out Os_46.1 leB (fun g hg => Nat.lt_of_lt_of_le (l4 g hg) leM) hO hgr hat; have hsz := Nat.le_trans (Nat.le_trans HWB.out Om_46.le) hgr.size; clear hgr hat hO k47 l1 l2 l3 l4 Om_46 Os_46 Bn_46 Bx_46 Bo_46 Bs_46 Hw46))
            go_roundw
            case rel => exact ⟨k + 1, vn, rfl, by omega, by go_num, by rw [HST3.out]; exact Bx_47, Bo_47, by rw [HST3.out]; exact Ov, by rw [HST3.out]; simp [HLN.out], Hw47, hsz⟩
            case measure => simp [intOf]; omega
          · have q0 : (pe == 0) = false := beq_eq_false_iff_ne.2 he
            have q9 : (pe != 0) = true := by rw [bne_iff_ne]; exact he
            have i2 : (k : Int) < (n : Int) := by omega
            have HLe : Hid (∀ W, Calls Try.prog 45 #[.agg #[.string ps, .int .i64 pa, .int .i64 pe], .int .i64 1] W fun e w' => e = .returned (.tuple #[.int .i64 0, .agg #[.string ps, .int .i64 pa, .int .i64 pe]]) ∧ Below W.heap.size W w') := Lib.hid fun W => rlittle_err ps pa pe 1 W q9
            have HR : Hid (tF = [] ∧ tL = [] ∧ tX = ⟨⟨#[]⟩, 0, pe⟩) := Lib.hid (by
              obtain ⟨h1, h2, h3, h4⟩ := HTk.out
              rw [HEX.out (Or.inr he), linesX_err (show (⟨ps, pa, pe⟩ : RS).e ≠ 0 from he)] at h1
              rw [h1, if_neg he] at h2 h3 h4
              exact ⟨h2, h3, h4⟩)
            clear HTk HEX HST2 hps hown hlen he
            have HB9 := HB.out
            have BX9 : Blk wr bx #[.string ps, .int .i64 pa, .int .i64 pe] 53 := BX
            clear BX
            go_wp2_with (first
              | (refine wl_load 53 3 _ Try.underlying53 rfl size62 _ rfl rfl _ rfl _ _ BX9 rfl ?_)
              | (go_at_call 45; (with_reducible refine (HLe.out _).mono ?_); rintro e W71 ⟨rfl, k71⟩; have Bx_71 := BX9.keep k71; have Bo_71 := BO.keep k71; have Hw71 := bq_trans HB9 k71; clear k71 BX9 BO HB9)
              | (refine wl_store 53 3 size62 _ _ rfl rfl _ rfl #[.string ps, .int .i64 pa, .int .i64 pe] rfl _ _ Bx_71 rfl rfl (by kernel_rfl) ?_; intro W72 Bx_72 T72; have Bo_72 := T72.blk Bo_71 (Ne.symm nxo); have Hw72 := T72.below Hw71 gx; clear T72 Bo_71 Bx_71 Hw71; have cx_2_72 : W72.cell? ⟨bx, 2, none⟩ = some (.int .i64 pe) := Bx_72.cell 2))
            generalize W72 = WC at *
            go_loopw [6, 10, 11] (fun a0 a1 _ wq => .slice none 0 0 = a0 ∧ .int .i64 0 = a1 ∧ WC = wq) (fun _ _ _ _ => 0)
            case atStart => exact ⟨rfl, rfl, rfl⟩
            case round =>
              obtain ⟨rfl, rfl, rfl⟩ := hrel
              go_wp2_with fail
              clear cx_2_72
              have HW9 := Lib.hid Hw72
              clear Hw72
              have HC73 : Hid (∀ w', But bo bo WC w' → w'.cell? ⟨bx, 2, none⟩ = some (.int .i64 pe)) := Lib.hid fun w' hw' => (Bx_72.but hw' nxo nxo).cell 2
              have hd73 : Below WC.heap.size WC WC.drew := bq_drew (bq_refl WC)
              have do0 : WC.cell? ⟨bo, 0, none⟩ = some (.string ⟨#[]⟩) := Bo_72.cell 0
              have fo0 := Bo_72.frozen 0
              have do1 : WC.cell? ⟨bo, 1, none⟩ = some (.int .i64 0) := Bo_72.cell 1
              have fo1 := Bo_72.frozen 1
              have do2 : WC.cell? ⟨bo, 2, none⟩ = some (.int .i64 0) := Bo_72.cell 2
              have fo2 := Bo_72.frozen 2
              go_region_held3 (fun w' => w'.cell? ⟨bx, 2, none⟩ = some (.int .i64 pe))
                ((refine HC73.out _ ?_; repeat' (first | (with_reducible refine But.setp _ _ ?_) | (with_reducible refine But.setq _ _ ?_) | (with_reducible refine But.drw ?_) | (with_reducible exact But.of (by assumption)) | (with_reducible exact But.of (bq_refl _)))))
                (fail)
              have Bx_73 := (((Bx_72.other (a := ⟨bo, 0, none⟩) (.string ⟨#[]⟩) nxo).other (a := ⟨bo, 1, none⟩) (.int .i64 0) nxo).other (a := ⟨bo, 2, none⟩) (.int .i64 pe) nxo).drew
              have Bo_73 : Blk (((WC.setCell ⟨bo, 0, none⟩ (.string ⟨#[]⟩)).setCell ⟨bo, 1, none⟩ (.int .i64 0)).setCell ⟨bo, 2, none⟩ (.int .i64 pe)).drew bo #[.string ⟨#[]⟩, .int .i64 0, .int .i64 pe] 53 := (((Bo_72.set 0 (.string ⟨#[]⟩)).set 1 (.int .i64 0)).set 2 (.int .i64 pe)).drew
              have Hw73 : Below w.heap.size w (((WC.setCell ⟨bo, 0, none⟩ (.string ⟨#[]⟩)).setCell ⟨bo, 1, none⟩ (.int .i64 0)).setCell ⟨bo, 2, none⟩ (.int .i64 pe)).drew := bq_drew (bq_set (bq_set (bq_set HW9.out ⟨bo, 0, none⟩ go (.string ⟨#[]⟩)) ⟨bo, 1, none⟩ go (.int .i64 0)) ⟨bo, 2, none⟩ go (.int .i64 pe))
              clear HC73 hd73 do0 fo0 do1 fo1 do2 fo2 Bx_72 Bo_72 
              generalize (((WC.setCell ⟨bo, 0, none⟩ (.string ⟨#[]⟩)).setCell ⟨bo, 1, none⟩ (.int .i64 0)).setCell ⟨bo, 2, none⟩ (.int .i64 pe)).drew = W73 at Bx_73 Bo_73 Hw73  ⊢
              go_wp2
              exact post_ttc Try.underlying53 rfl size62 Try.results22 Bo_73 rfl rfl rfl rfl rfl ⟨.slice none 0 0, .slice none 0 0, by rw [HR.out.2.2]; rfl, by rw [HR.out.1]; exact ownF_nil _ _, by rw [HR.out.2.1]; exact ownP_nil _ _ _, Hw73⟩
        · have i2 : ¬ (k : Int) < (n : Int) := by omega
          have HTk2 := Lib.hid HTk.out
          have HL2b := Lib.hid (fun W => rlittle8_any ⟨ps, pa, pe⟩ 1 W hps (by decide) (by decide))
          have hcs2 := cntX_size (x := ⟨ps, pa, pe⟩) hps
          have HVB2 := li1_bd ⟨ps, pa, pe⟩
          have Hcnt2 : Hid (cntX ⟨ps, pa, pe⟩ = ((⟨ps, pa, pe⟩ : RS).liS 1).dem (decide (15 < (⟨ps, pa, pe⟩ : RS).li 1)) 7) := Lib.hid rfl
          have HTL : Hid (tE = (linesT (cntX ⟨ps, pa, pe⟩) ((⟨ps, pa, pe⟩ : RS).li 1).toNat).2 ∧ tF = (if tE.e = 0 then L else []) ∧ tL = (if tE.e = 0 then (linesT (cntX ⟨ps, pa, pe⟩) ((⟨ps, pa, pe⟩ : RS).li 1).toNat).1 else []) ∧ tX = (if tE.e = 0 then tE else ⟨⟨#[]⟩, 0, tE.e⟩)) := Lib.hid (by
            have h := HTk.out
            rw [HEX.out (Or.inl (by omega))] at h
            exact h)
          obtain ⟨mm, hmm⟩ : ∃ mm : Nat, (⟨ps, pa, pe⟩ : RS).li 1 = (mm : Int) := ⟨((⟨ps, pa, pe⟩ : RS).li 1).toNat, by omega⟩
          rw [hmm] at HL2b HVB2 HTL Hcnt2
          have hm0 : ((mm : Nat) : Int).toNat = mm := by omega
          rw [hm0] at HTL
          have hm1 : mm ≤ 255 := by omega
          clear hmm HVB2 hm0 HTk HTk2 HST2 HEX hps
          generalize cntX ⟨ps, pa, pe⟩ = u2 at *
          generalize (⟨ps, pa, pe⟩ : RS).liS 1 = y2 at *
          obtain ⟨qs, qa, qe⟩ := y2
          have HL3 : Hid (∀ W, Calls Try.prog 45 #[.agg #[.string ps, .int .i64 pa, .int .i64 pe], .int .i64 1] W fun e w' => e = .returned (.tuple #[.int .i64 (mm : Int), .agg #[.string qs, .int .i64 qa, .int .i64 qe]]) ∧ Below W.heap.size W w') := HL2b
          have HB9 := HB.out
          have OF := hown
          have BX9 : Blk wr bx #[.string ps, .int .i64 pa, .int .i64 pe] 53 := BX
          have SM9 : SzM wr WA.heap.size WA.heap.size := ⟨HWB.out⟩
          clear HL2b hown hlen hk HB BX
          go_upto_region 14 with (go_big_may; first
            | (refine wl_load 53 3 _ Try.underlying53 rfl size62 _ rfl rfl _ rfl _ _ BX9 rfl ?_)
            | (go_at_call 45; (with_reducible refine (HL3.out _).mono ?_); rintro e W81 ⟨rfl, k81⟩; have Bx_81 := BX9.keep k81; have Bo_81 := BO.keep k81; have Of_81 := OF.keep k81; have Om_81 := SM9.keep k81; have Hw81 := bq_trans HB9 k81; clear k81 BX9 BO OF SM9 HB9)
            | (refine wl_store 53 3 size62 _ _ rfl rfl _ rfl #[.string qs, .int .i64 qa, .int .i64 qe] rfl _ _ Bx_81 rfl rfl (by kernel_rfl) ?_; intro W82 Bx_82 T82; have Bo_82 := T82.blk Bo_81 (Ne.symm nxo); have Of_82 := Of_81.turned T82 ltxA; have Om_82 := Om_81.turned T82 (Or.inl ltxA); have Hw82 := T82.below Hw81 gx; clear T82 Bo_81 Of_81 Om_81 Bx_81 Hw81; have cx_2_82 : W82.cell? ⟨bx, 2, none⟩ = some (.int .i64 qe) := Bx_82.cell 2))
          try simp only [Act.put, List.setIfInBounds_toArray, List.set_cons_zero, List.set_cons_succ]
          go_cut [50, 51, 52, 53, 54, 55, 56] (fun _ _ _ _ _ _ c wx => c = .bool (decide (qe = 0) && decide (15 < (mm : Int))) ∧ W82 = wx)
          case first =>
            by_cases he : qe = 0
            · have q1 : (qe == 0) = true := beq_iff_eq.2 he
              have q2 : (decide (qe = 0) && decide (15 < (mm : Int))) = decide (15 < (mm : Int)) := by rw [decide_eq_true he]; rfl
              have HQ2 := Lib.hid q2
              clear q2 he
              go_wp2_with fail
              go_meet
              case rel => exact ⟨congrArg Value.bool HQ2.out.symm, rfl⟩
            · have q1 : (qe == 0) = false := beq_eq_false_iff_ne.2 he
              have q2 : (decide (qe = 0) && decide (15 < (mm : Int))) = false := by rw [decide_eq_false he]; rfl
              have HQ2 := Lib.hid q2
              clear q2 he
              go_wp2_with fail
              go_meet
              case rel => exact ⟨congrArg Value.bool HQ2.out.symm, rfl⟩
          case rest =>
            obtain ⟨rfl, rfl⟩ := hcut
            generalize hc : (decide (qe = 0) && decide (15 < (mm : Int))) = c at *
            have Hu : Hid (u2 = if c = true then ⟨qs, qa, 7⟩ else ⟨qs, qa, qe⟩) := Lib.hid (by rw [Hcnt2.out, RS.dem_b]; show (if (decide (qe = 0) && decide (15 < (mm : Int))) = true then _ else _) = _; rw [hc])
            clear Hcnt2
            cases c
            rotate_left
            · have Hu2 : Hid (u2 = ⟨qs, qa, 7⟩) := Lib.hid (Hu.out.trans (if_pos rfl))
              have HR : Hid (tF = [] ∧ tL = [] ∧ tX = ⟨⟨#[]⟩, 0, 7⟩) := Lib.hid (by
                obtain ⟨h1, h2, h3, h4⟩ := HTL.out
                rw [Hu2.out, lines_err (show (7 : Int) ≠ 0 by decide)] at h1
                rw [h1] at h2 h3 h4
                exact ⟨h2, h3, h4⟩)
              clear hc Hu HTL Hu2
              go_upto_region 16 with (go_big_may; first
                | (refine wl_set 3 _ _ rfl rfl bx 2 rfl (.int .i64 7) rfl rfl size3s _ _ Bx_82 (by decide : 2 < 3) ?_; intro W91 Bx_91 T91; have Bo_91 := T91.blk Bo_82 (Ne.symm nxo); have Hw91 := T91.below Hw82 gx; clear T91 Bo_82 cx_2_82 Bx_82 Hw82; have cx_2_91 : W91.cell? ⟨bx, 2, none⟩ = some (.int .i64 7) := Bx_91.cell 2))
              go_wp2_with fail
              generalize W91 = WC at *
              go_loopw [6, 10, 11] (fun a0 a1 _ wq => .slice none 0 0 = a0 ∧ .int .i64 0 = a1 ∧ WC = wq) (fun _ _ _ _ => 0)
              case atStart => exact ⟨rfl, rfl, rfl⟩
              case round =>
                obtain ⟨rfl, rfl, rfl⟩ := hrel
                by_cases hlt : (0 : Int) < (mm : Int)
                · go_wp2_with fail
                  clear cx_2_91
                  have HW9 := Lib.hid Hw91
                  clear Hw91
                  have HC92 : Hid (∀ w', But bo bo WC w' → w'.cell? ⟨bx, 2, none⟩ = some (.int .i64 7)) := Lib.hid fun w' hw' => (Bx_91.but hw' nxo nxo).cell 2
                  have hd92 : Below WC.heap.size WC WC.drew := bq_drew (bq_refl WC)
                  have do0 : WC.cell? ⟨bo, 0, none⟩ = some (.string ⟨#[]⟩) := Bo_91.cell 0
                  have fo0 := Bo_91.frozen 0
                  have do1 : WC.cell? ⟨bo, 1, none⟩ = some (.int .i64 0) := Bo_91.cell 1
                  have fo1 := Bo_91.frozen 1
                  have do2 : WC.cell? ⟨bo, 2, none⟩ = some (.int .i64 0) := Bo_91.cell 2
                  have fo2 := Bo_91.frozen 2
                  go_region_held3 (fun w' => w'.cell? ⟨bx, 2, none⟩ = some (.int .i64 7))
                    ((refine HC92.out _ ?_; repeat' (first | (with_reducible refine But.setp _ _ ?_) | (with_reducible refine But.setq _ _ ?_) | (with_reducible refine But.drw ?_) | (with_reducible exact But.of (by assumption)) | (with_reducible exact But.of (bq_refl _)))))
                    (fail)
                  have Bx_92 := (((Bx_91.other (a := ⟨bo, 0, none⟩) (.string ⟨#[]⟩) nxo).other (a := ⟨bo, 1, none⟩) (.int .i64 0) nxo).other (a := ⟨bo, 2, none⟩) (.int .i64 7) nxo).drew
                  have Bo_92 : Blk (((WC.setCell ⟨bo, 0, none⟩ (.string ⟨#[]⟩)).setCell ⟨bo, 1, none⟩ (.int .i64 0)).setCell ⟨bo, 2, none⟩ (.int .i64 7)).drew bo #[.string ⟨#[]⟩, .int .i64 0, .int .i64 7] 53 := (((Bo_91.set 0 (.string ⟨#[]⟩)).set 1 (.int .i64 0)).set 2 (.int .i64 7)).drew
                  have Hw92 : Below w.heap.size w (((WC.setCell ⟨bo, 0, none⟩ (.string ⟨#[]⟩)).setCell ⟨bo, 1, none⟩ (.int .i64 0)).setCell ⟨bo, 2, none⟩ (.int .i64 7)).drew := bq_drew (bq_set (bq_set (bq_set HW9.out ⟨bo, 0, none⟩ go (.string ⟨#[]⟩)) ⟨bo, 1, none⟩ go (.int .i64 0)) ⟨bo, 2, none⟩ go (.int .i64 7))
                  clear HC92 hd92 do0 fo0 do1 fo1 do2 fo2 Bx_91 Bo_91 
                  generalize (((WC.setCell ⟨bo, 0, none⟩ (.string ⟨#[]⟩)).setCell ⟨bo, 1, none⟩ (.int .i64 0)).setCell ⟨bo, 2, none⟩ (.int .i64 7)).drew = W92 at Bx_92 Bo_92 Hw92  ⊢
                  go_wp2
                  exact post_ttc Try.underlying53 rfl size62 Try.results22 Bo_92 rfl rfl rfl rfl rfl ⟨.slice none 0 0, .slice none 0 0, by rw [HR.out.2.2]; rfl, by rw [HR.out.1]; exact ownF_nil _ _, by rw [HR.out.2.1]; exact ownP_nil _ _ _, Hw92⟩
                · go_wp2_with fail
                  clear cx_2_91
                  have HW9 := Lib.hid Hw91
                  clear Hw91
                  have HC92 : Hid (∀ w', But bo bo WC w' → w'.cell? ⟨bx, 2, none⟩ = some (.int .i64 7)) := Lib.hid fun w' hw' => (Bx_91.but hw' nxo nxo).cell 2
                  have hd92 : Below WC.heap.size WC WC.drew := bq_drew (bq_refl WC)
                  have do0 : WC.cell? ⟨bo, 0, none⟩ = some (.string ⟨#[]⟩) := Bo_91.cell 0
                  have fo0 := Bo_91.frozen 0
                  have do1 : WC.cell? ⟨bo, 1, none⟩ = some (.int .i64 0) := Bo_91.cell 1
                  have fo1 := Bo_91.frozen 1
                  have do2 : WC.cell? ⟨bo, 2, none⟩ = some (.int .i64 0) := Bo_91.cell 2
                  have fo2 := Bo_91.frozen 2
                  go_region_held3 (fun w' => w'.cell? ⟨bx, 2, none⟩ = some (.int .i64 7))
                    ((refine HC92.out _ ?_; repeat' (first | (with_reducible refine But.setp _ _ ?_) | (with_reducible refine But.setq _ _ ?_) | (with_reducible refine But.drw ?_) | (with_reducible exact But.of (by assumption)) | (with_reducible exact But.of (bq_refl _)))))
                    (fail)
                  have Bx_92 := (((Bx_91.other (a := ⟨bo, 0, none⟩) (.string ⟨#[]⟩) nxo).other (a := ⟨bo, 1, none⟩) (.int .i64 0) nxo).other (a := ⟨bo, 2, none⟩) (.int .i64 7) nxo).drew
                  have Bo_92 : Blk (((WC.setCell ⟨bo, 0, none⟩ (.string ⟨#[]⟩)).setCell ⟨bo, 1, none⟩ (.int .i64 0)).setCell ⟨bo, 2, none⟩ (.int .i64 7)).drew bo #[.string ⟨#[]⟩, .int .i64 0, .int .i64 7] 53 := (((Bo_91.set 0 (.string ⟨#[]⟩)).set 1 (.int .i64 0)).set 2 (.int .i64 7)).drew
                  have Hw92 : Below w.heap.size w (((WC.setCell ⟨bo, 0, none⟩ (.string ⟨#[]⟩)).setCell ⟨bo, 1, none⟩ (.int .i64 0)).setCell ⟨bo, 2, none⟩ (.int .i64 7)).drew := bq_drew (bq_set (bq_set (bq_set HW9.out ⟨bo, 0, none⟩ go (.string ⟨#[]⟩)) ⟨bo, 1, none⟩ go (.int .i64 0)) ⟨bo, 2, none⟩ go (.int .i64 7))
                  clear HC92 hd92 do0 fo0 do1 fo1 do2 fo2 Bx_91 Bo_91 
                  generalize (((WC.setCell ⟨bo, 0, none⟩ (.string ⟨#[]⟩)).setCell ⟨bo, 1, none⟩ (.int .i64 0)).setCell ⟨bo, 2, none⟩ (.int .i64 7)).drew = W92 at Bx_92 Bo_92 Hw92  ⊢
                  go_wp2
                  exact post_ttc Try.underlying53 rfl size62 Try.results22 Bo_92 rfl rfl rfl rfl rfl ⟨.slice none 0 0, .slice none 0 0, by rw [HR.out.2.2]; rfl, by rw [HR.out.1]; exact ownF_nil _ _, by rw [HR.out.2.1]; exact ownP_nil _ _ _, Hw92⟩
            · have Hu2 : Hid (u2 = ⟨qs, qa, qe⟩) := Lib.hid (Hu.out.trans (if_neg (by decide)))
              have BXu : Blk W82 bx u2.cells 53 := by rw [Hu2.out]; exact Bx_82
              have BOu := Bo_82
              have HWu := Hw82
              have OFu := Of_82.m
              clear hc Hu Hu2 Bx_82 Bo_82 Hw82 Of_82 cx_2_82
              have HWAC : Hid (WA.heap.size ≤ W82.heap.size) := Lib.hid Om_82.le
              clear Om_82
              generalize W82 = WC at *
              have HUS2 := Lib.hid hcs2
              have ltxC := BXu.lt
              have ltoC := BOu.lt
              have leC := HWu.size
              clear hcs2
              go_wp2_with fail
              go_loopw [6, 10, 11] (fun vv i _ wr => TlRel w WA.heap.size WC.heap.size v L u2 mm bx bo vv i wr) (fun _ i _ _ => mm - (intOf i).toNat)
              case atStart => exact ⟨0, _, rfl, by omega, rfl, BXu, BOu, OFu, ownP_nil _ _ _, rfl, HWu, Nat.le_refl _⟩
              case round =>
                obtain ⟨k2, v2, hv, hk, rfl, BX, BO, hof, hown, hlen, hbel, hWB2⟩ := hrel
                subst hv
                clear BXu BOu HWu OFu
                have HEX2 : Hid (mm ≤ k2 ∨ (linesT u2 k2).2.e ≠ 0 → linesT u2 mm = linesT u2 k2) := Lib.hid (fun h => by
                  by_cases hkn : mm ≤ k2
                  · rw [show mm = k2 by omega]
                  · have := lines_stuck (h.resolve_left hkn) (mm - k2)
                    rwa [show k2 + (mm - k2) = mm by omega] at this)
                have hps : (linesT u2 k2).2.s.size ≤ 1000000 := linesT_size HUS2.out k2
                have HST : Hid (∀ L y, linesT u2 k2 = (L, y) → y.e = 0 → linesT u2 (k2 + 1) = (L ++ [y.li 2 :: (y.liS 2).cv], (y.liS 2).cvS)) := Lib.hid (fun L y h he => by
                  show lineStep (linesT u2 k2) = _
                  rw [h]
                  exact if_pos he)
                have HFV : Hid (∀ x ∈ (linesT u2 (k2 + 1)).1, x.length = 5 ∧ ∀ v ∈ x, I64 v) := Lib.hid (lines_five _ _)
                obtain ⟨M, y, hLy⟩ : ∃ M y, linesT u2 k2 = (M, y) := ⟨_, _, rfl⟩
                have HST2 := Lib.hid (HST.out M y hLy)
                rw [hLy] at BX hown hlen hps HEX2
                clear HST hLy
                dsimp only at BX hown hlen hps HEX2
                obtain ⟨ns, na, ne'⟩ := y
                have HB := Lib.hid hbel
                have HWB2 := Lib.hid hWB2
                have cx2 : wr.cell? ⟨bx, 2, none⟩ = some (.int .i64 ne') := BX.cell 2
                clear hbel hWB2
                by_cases hlt : k2 < mm
                · by_cases he : ne' = 0
                  · subst he
                    have HST3 : Hid (linesT u2 (k2 + 1) = (M ++ [(⟨ns, na, 0⟩ : RS).li 2 :: ((⟨ns, na, 0⟩ : RS).liS 2).cv], ((⟨ns, na, 0⟩ : RS).liS 2).cvS)) := Lib.hid (HST2.out rfl)
                    have HLI : Hid (∀ W, Calls Try.prog 45 #[.agg #[.string ns, .int .i64 na, .int .i64 0], .int .i64 2] W fun e w' => e = .returned (.tuple #[.int .i64 ((⟨ns, na, 0⟩ : RS).li 2), .agg ((⟨ns, na, 0⟩ : RS).liS 2).cells]) ∧ Below W.heap.size W w') := Lib.hid fun W => rlittle8_any ⟨ns, na, 0⟩ 2 W hps (by decide) (by decide)
                    have hy1 : ((⟨ns, na, 0⟩ : RS).liS 2).s.size ≤ 1000000 := RS.liS_size _ 2 hps
                    clear HST2 HEX2 hps HTL
                    generalize (⟨ns, na, 0⟩ : RS).li 2 = lw at *
                    generalize (⟨ns, na, 0⟩ : RS).liS 2 = y1 at *
                    have HC0 := Lib.hid (fun W => rcolor8_any y1 W hy1)
                    obtain ⟨r, g, b, a, hcv⟩ := list4 _ (cv_len y1)
                    rw [hcv] at HC0 HST3
                    generalize y1.cvS = z1 at *
                    obtain ⟨us, ua, ue⟩ := y1
                    obtain ⟨t0, t1, t2⟩ := z1
                    have HLI2 : Hid (∀ W, Calls Try.prog 45 #[.agg #[.string ns, .int .i64 na, .int .i64 0], .int .i64 2] W fun e w' => e = .returned (.tuple #[.int .i64 lw, .agg #[.string us, .int .i64 ua, .int .i64 ue]]) ∧ Below W.heap.size W w') := HLI
                    have HC : Hid (∀ W, Calls Try.prog 47 #[.agg #[.string us, .int .i64 ua, .int .i64 ue]] W fun e w' => e = .returned (.tuple #[.agg #[.int .i64 r, .int .i64 g, .int .i64 b, .int .i64 a], .agg #[.string t0, .int .i64 t1, .int .i64 t2]]) ∧ Below W.heap.size W w') := HC0
                    have H5 : Hid (∀ x ∈ [lw, r, g, b, a], I64 x) := Lib.hid (fun x hx => (HFV.out [lw, r, g, b, a] (by rw [HST3.out]; simp)).2 x hx)
                    have HLE : Hid ((M.map iL).length ≤ 1000000) := Lib.hid (by rw [List.length_map, hlen]; omega)
                    have OM : OwnM wr WC.heap.size wr.heap.size 30 v2 M := hown.m
                    have SM : SzM wr WC.heap.size wr.heap.size := ⟨Nat.le_refl _⟩
                    have HBw := HB.out
                    have HLN := Lib.hid hlen
                    have BX1 : Blk wr bx #[.string ns, .int .i64 na, .int .i64 0] 53 := BX
                    have i3 : (k2 : Int) < (mm : Int) := by omega
                    clear HLI HC0 hcv hy1 HFV hown hlen HB BX
                    go_upto_region 22 with (go_big_may; first
                      | (refine wl_alloc 30 _ zeroSKt rfl rfl ?_; intro W121 bs Bs_121 l121 k121; have gs : w.heap.size ≤ bs := Nat.le_trans HBw.size l121; have nxs : bx ≠ bs := Nat.ne_of_lt (Nat.lt_of_lt_of_le BX1.lt l121); have nos : bo ≠ bs := Nat.ne_of_lt (Nat.lt_of_lt_of_le BO.lt l121); have los := Nat.le_trans SM.le l121; have Bx_121 := BX1.keep k121; have Bo_121 := BO.keep k121; have Of_121 := hof.keep k121; have Ov_121 := OM.keep k121; have Om_121 := SM.keep k121; have Hw121 := bq_trans HBw k121; clear l121 k121 BX1 BO hof OM SM HBw)
                      | (refine wl_store 30 5 size36t _ _ rfl rfl _ rfl #[.int .i64 0, .int .i64 0, .int .i64 0, .int .i64 0, .int .i64 0] rfl _ _ Bs_121 rfl rfl (by kernel_rfl) ?_; intro W122 Bs_122 T122; have Bx_122 := T122.blk Bx_121 nxs; have Bo_122 := T122.blk Bo_121 nos; have Of_122 := Of_121.turned T122 (Or.inr (Nat.le_trans HWB2.out los)); have Ov_122 := Ov_121.turned T122 (Or.inr los); have Om_122 := Om_121.turned T122 (Or.inr los); have Hw122 := T122.below Hw121 gs; clear T122 Bx_121 Bo_121 Of_121 Ov_121 Om_121 Bs_121 Hw121)
                      | (refine wl_load 53 3 _ Try.underlying53 rfl size62 _ rfl rfl _ rfl _ _ Bx_122 rfl ?_)
                      | (go_at_call 45; (with_reducible refine (HLI2.out _).mono ?_); rintro e W123 ⟨rfl, k123⟩; have Bx_123 := Bx_122.keep k123; have Bo_123 := Bo_122.keep k123; have Bs_123 := Bs_122.keep k123; have Of_123 := Of_122.keep k123; have Ov_123 := Ov_122.keep k123; have Om_123 := Om_122.keep k123; have Hw123 := bq_trans Hw122 k123; clear k123 Bx_122 Bo_122 Bs_122 Of_122 Ov_122 Om_122 Hw122)
                      | (refine wl_set 3 _ _ rfl rfl bs 0 rfl (.int .i64 lw) rfl rfl size3s _ _ Bs_123 (by decide : 0 < 5) ?_; intro W124 Bs_124 T124; have Bx_124 := T124.blk Bx_123 nxs; have Bo_124 := T124.blk Bo_123 nos; have Of_124 := Of_123.turned T124 (Or.inr (Nat.le_trans HWB2.out los)); have Ov_124 := Ov_123.turned T124 (Or.inr los); have Om_124 := Om_123.turned T124 (Or.inr los); have Hw124 := T124.below Hw123 gs; clear T124 Bx_123 Bo_123 Of_123 Ov_123 Om_123 Bs_123 Hw123)
                      | (refine wl_store 53 3 size62 _ _ rfl rfl _ rfl #[.string us, .int .i64 ua, .int .i64 ue] rfl _ _ Bx_124 rfl rfl (by kernel_rfl) ?_; intro W125 Bx_125 T125; have Bo_125 := T125.blk Bo_124 (Ne.symm nxo); have Bs_125 := T125.blk Bs_124 (Ne.symm nxs); have Of_125 := Of_124.turned T125 (Or.inl ltxA); have Ov_125 := Ov_124.turned T125 (Or.inl ltxC); have Om_125 := Om_124.turned T125 (Or.inl ltxC); have Hw125 := T125.below Hw124 gx; clear T125 Bo_124 Bs_124 Of_124 Ov_124 Om_124 Bx_124 Hw124)
                      | (refine wl_load 53 3 _ Try.underlying53 rfl size62 _ rfl rfl _ rfl _ _ Bx_125 rfl ?_)
                      | (go_at_call 47; (with_reducible refine (HC.out _).mono ?_); rintro e W126 ⟨rfl, k126⟩; have Bx_126 := Bx_125.keep k126; have Bo_126 := Bo_125.keep k126; have Bs_126 := Bs_125.keep k126; have Of_126 := Of_125.keep k126; have Ov_126 := Ov_125.keep k126; have Om_126 := Om_125.keep k126; have Hw126 := bq_trans Hw125 k126; clear k126 Bx_125 Bo_125 Bs_125 Of_125 Ov_125 Om_125 Hw125)
                      | (refine wl_putAt 23 _ _ rfl rfl bs 1 rfl #[.int .i64 r, .int .i64 g, .int .i64 b, .int .i64 a] rfl size23g8 (by kernel_rfl) _ _ Bs_126 (by decide : 1 + 4 ≤ 5) #[.int .i64 lw, .int .i64 r, .int .i64 g, .int .i64 b, .int .i64 a] (by kernel_rfl) ?_; intro W127 Bs_127 T127; have Bx_127 := T127.blk Bx_126 nxs; have Bo_127 := T127.blk Bo_126 nos; have Of_127 := Of_126.turned T127 (Or.inr (Nat.le_trans HWB2.out los)); have Ov_127 := Ov_126.turned T127 (Or.inr los); have Om_127 := Om_126.turned T127 (Or.inr los); have Hw127 := T127.below Hw126 gs; clear T127 Bx_126 Bo_126 Of_126 Ov_126 Om_126 Bs_126 Hw126)
                      | (refine wl_store 53 3 size62 _ _ rfl rfl _ rfl #[.string t0, .int .i64 t1, .int .i64 t2] rfl _ _ Bx_127 rfl rfl (by kernel_rfl) ?_; intro W128 Bx_128 T128; have Bo_128 := T128.blk Bo_127 (Ne.symm nxo); have Bs_128 := T128.blk Bs_127 (Ne.symm nxs); have Of_128 := Of_127.turned T128 (Or.inl ltxA); have Ov_128 := Ov_127.turned T128 (Or.inl ltxC); have Om_128 := Om_127.turned T128 (Or.inl ltxC); have Hw128 := T128.below Hw127 gx; clear T128 Bo_127 Bs_127 Of_127 Ov_127 Om_127 Bx_127 Hw127))
                    go_wp2_with (first
                      | (refine wl_load 30 5 _ Try.underlying30 rfl size36t _ rfl rfl _ rfl _ _ Bs_128 rfl ?_)
                      | (refine wlg_slice 37 30 1 _ _ (line1_run lw r g b a) _ rfl rfl rfl ?_; intro W129 bn Bn_129 l129 k129; have gn : w.heap.size ≤ bn := Nat.le_trans Hw128.size l129; have nxn : bx ≠ bn := Nat.ne_of_lt (Nat.lt_of_lt_of_le Bx_128.lt l129); have non : bo ≠ bn := Nat.ne_of_lt (Nat.lt_of_lt_of_le Bo_128.lt l129); have nsn : bs ≠ bn := Nat.ne_of_lt (Nat.lt_of_lt_of_le Bs_128.lt l129); have lon := Nat.le_trans Om_128.le l129; have Bx_129 := Bx_128.keep k129; have Bo_129 := Bo_128.keep k129; have Bs_129 := Bs_128.keep k129; have Of_129 := Of_128.keep k129; have Ov_129 := Ov_128.keep k129; have Om_129 := Om_128.keep k129; have Hw129 := bq_trans Hw128 k129; clear l129 k129 Bx_128 Bo_128 Bs_128 Of_128 Ov_128 Om_128 Hw128)
                      | (refine wl_appC 37 30 5 _ Try.underlying37 sk_info rfl (by decide) _ _ rfl rfl WC.heap.size _ rfl (M.map iL) Ov_129.1.1 bn 1 _ _ rfl Bn_129 rfl (by kernel_rfl) HLE.out (Nat.le_trans HWB2.out Om_129.le) ?_; intro vn W130 hO k130 hgr hat; have Bx_130 := Bx_129.under k130 ltxC; have Bo_130 := Bo_129.under k130 ltoC; have Hw130 := Hw129.trans (k130.mono leC); have Of_130 := Of_129.under k130; have Ov := OwnP.snoc (x := [lw, r, g, b, a]) Ov_129.1 rfl H5.out hO; have hsz := Nat.le_trans (Nat.le_trans HWB2.out Om_129.le) hgr.size; clear hgr hat hO k130 Of_129 Ov_129 Om_129 Bn_129 Bx_129 Bo_129 Bs_129 Hw129))
                    go_roundw
                    case rel => exact ⟨k2 + 1, vn, rfl, by omega, by go_num, by rw [HST3.out]; exact Bx_130, Bo_130, Of_130, by rw [HST3.out]; exact Ov, by rw [HST3.out]; simp [HLN.out], Hw130, hsz⟩
                    case measure => simp [intOf]; omega
                  · have q0 : (ne' == 0) = false := beq_eq_false_iff_ne.2 he
                    have q9 : (ne' != 0) = true := by rw [bne_iff_ne]; exact he
                    have i3 : (k2 : Int) < (mm : Int) := by omega
                    have HR : Hid (tF = [] ∧ tL = [] ∧ tX = ⟨⟨#[]⟩, 0, ne'⟩) := Lib.hid (by
                      obtain ⟨h1, h2, h3, h4⟩ := HTL.out
                      rw [HEX2.out (Or.inr he)] at h1 h3
                      rw [h1, if_neg he] at h2 h3 h4
                      exact ⟨h2, h3, h4⟩)
                    clear HTL HEX2 HST2 HFV hps hown hof hlen he
                    have HB9 := HB.out
                    have BX9 : Blk wr bx #[.string ns, .int .i64 na, .int .i64 ne'] 53 := BX
                    clear BX
                    go_wp2_with fail
                    clear cx2
                    have HW9 := Lib.hid HB9
                    clear HB9
                    have HC151 : Hid (∀ w', But bo bo wr w' → w'.cell? ⟨bx, 2, none⟩ = some (.int .i64 ne')) := Lib.hid fun w' hw' => (BX9.but hw' nxo nxo).cell 2
                    have hd151 : Below wr.heap.size wr wr.drew := bq_drew (bq_refl wr)
                    have do0 : wr.cell? ⟨bo, 0, none⟩ = some (.string ⟨#[]⟩) := BO.cell 0
                    have fo0 := BO.frozen 0
                    have do1 : wr.cell? ⟨bo, 1, none⟩ = some (.int .i64 0) := BO.cell 1
                    have fo1 := BO.frozen 1
                    have do2 : wr.cell? ⟨bo, 2, none⟩ = some (.int .i64 0) := BO.cell 2
                    have fo2 := BO.frozen 2
                    go_region_held3 (fun w' => w'.cell? ⟨bx, 2, none⟩ = some (.int .i64 ne'))
                      ((refine HC151.out _ ?_; repeat' (first | (with_reducible refine But.setp _ _ ?_) | (with_reducible refine But.setq _ _ ?_) | (with_reducible refine But.drw ?_) | (with_reducible exact But.of (by assumption)) | (with_reducible exact But.of (bq_refl _)))))
                      (fail)
                    have Bx_151 := (((BX9.other (a := ⟨bo, 0, none⟩) (.string ⟨#[]⟩) nxo).other (a := ⟨bo, 1, none⟩) (.int .i64 0) nxo).other (a := ⟨bo, 2, none⟩) (.int .i64 ne') nxo).drew
                    have Bo_151 : Blk (((wr.setCell ⟨bo, 0, none⟩ (.string ⟨#[]⟩)).setCell ⟨bo, 1, none⟩ (.int .i64 0)).setCell ⟨bo, 2, none⟩ (.int .i64 ne')).drew bo #[.string ⟨#[]⟩, .int .i64 0, .int .i64 ne'] 53 := (((BO.set 0 (.string ⟨#[]⟩)).set 1 (.int .i64 0)).set 2 (.int .i64 ne')).drew
                    have Hw151 : Below w.heap.size w (((wr.setCell ⟨bo, 0, none⟩ (.string ⟨#[]⟩)).setCell ⟨bo, 1, none⟩ (.int .i64 0)).setCell ⟨bo, 2, none⟩ (.int .i64 ne')).drew := bq_drew (bq_set (bq_set (bq_set HW9.out ⟨bo, 0, none⟩ go (.string ⟨#[]⟩)) ⟨bo, 1, none⟩ go (.int .i64 0)) ⟨bo, 2, none⟩ go (.int .i64 ne'))
                    clear HC151 hd151 do0 fo0 do1 fo1 do2 fo2 BX9 BO 
                    generalize (((wr.setCell ⟨bo, 0, none⟩ (.string ⟨#[]⟩)).setCell ⟨bo, 1, none⟩ (.int .i64 0)).setCell ⟨bo, 2, none⟩ (.int .i64 ne')).drew = W151 at Bx_151 Bo_151 Hw151  ⊢
                    go_wp2
                    exact post_ttc Try.underlying53 rfl size62 Try.results22 Bo_151 rfl rfl rfl rfl rfl ⟨.slice none 0 0, .slice none 0 0, by rw [HR.out.2.2]; rfl, by rw [HR.out.1]; exact ownF_nil _ _, by rw [HR.out.2.1]; exact ownP_nil _ _ _, Hw151⟩
                · have i3 : ¬ (k2 : Int) < (mm : Int) := by omega
                  by_cases he : ne' = 0
                  rotate_left
                  · have q0 : (ne' == 0) = false := beq_eq_false_iff_ne.2 he
                    have q9 : (ne' != 0) = true := by rw [bne_iff_ne]; exact he
                    have HR : Hid (tF = [] ∧ tL = [] ∧ tX = ⟨⟨#[]⟩, 0, ne'⟩) := Lib.hid (by
                      obtain ⟨h1, h2, h3, h4⟩ := HTL.out
                      rw [HEX2.out (Or.inl (by omega))] at h1 h3
                      rw [h1, if_neg he] at h2 h3 h4
                      exact ⟨h2, h3, h4⟩)
                    clear HTL HEX2 HST2 HFV hps hown hof hlen he
                    have HB9 := HB.out
                    have BX9 : Blk wr bx #[.string ns, .int .i64 na, .int .i64 ne'] 53 := BX
                    clear BX
                    go_wp2_with fail
                    clear cx2
                    have HW9 := Lib.hid HB9
                    clear HB9
                    have HC151 : Hid (∀ w', But bo bo wr w' → w'.cell? ⟨bx, 2, none⟩ = some (.int .i64 ne')) := Lib.hid fun w' hw' => (BX9.but hw' nxo nxo).cell 2
                    have hd151 : Below wr.heap.size wr wr.drew := bq_drew (bq_refl wr)
                    have do0 : wr.cell? ⟨bo, 0, none⟩ = some (.string ⟨#[]⟩) := BO.cell 0
                    have fo0 := BO.frozen 0
                    have do1 : wr.cell? ⟨bo, 1, none⟩ = some (.int .i64 0) := BO.cell 1
                    have fo1 := BO.frozen 1
                    have do2 : wr.cell? ⟨bo, 2, none⟩ = some (.int .i64 0) := BO.cell 2
                    have fo2 := BO.frozen 2
                    go_region_held3 (fun w' => w'.cell? ⟨bx, 2, none⟩ = some (.int .i64 ne'))
                      ((refine HC151.out _ ?_; repeat' (first | (with_reducible refine But.setp _ _ ?_) | (with_reducible refine But.setq _ _ ?_) | (with_reducible refine But.drw ?_) | (with_reducible exact But.of (by assumption)) | (with_reducible exact But.of (bq_refl _)))))
                      (fail)
                    have Bx_151 := (((BX9.other (a := ⟨bo, 0, none⟩) (.string ⟨#[]⟩) nxo).other (a := ⟨bo, 1, none⟩) (.int .i64 0) nxo).other (a := ⟨bo, 2, none⟩) (.int .i64 ne') nxo).drew
                    have Bo_151 : Blk (((wr.setCell ⟨bo, 0, none⟩ (.string ⟨#[]⟩)).setCell ⟨bo, 1, none⟩ (.int .i64 0)).setCell ⟨bo, 2, none⟩ (.int .i64 ne')).drew bo #[.string ⟨#[]⟩, .int .i64 0, .int .i64 ne'] 53 := (((BO.set 0 (.string ⟨#[]⟩)).set 1 (.int .i64 0)).set 2 (.int .i64 ne')).drew
                    have Hw151 : Below w.heap.size w (((wr.setCell ⟨bo, 0, none⟩ (.string ⟨#[]⟩)).setCell ⟨bo, 1, none⟩ (.int .i64 0)).setCell ⟨bo, 2, none⟩ (.int .i64 ne')).drew := bq_drew (bq_set (bq_set (bq_set HW9.out ⟨bo, 0, none⟩ go (.string ⟨#[]⟩)) ⟨bo, 1, none⟩ go (.int .i64 0)) ⟨bo, 2, none⟩ go (.int .i64 ne'))
                    clear HC151 hd151 do0 fo0 do1 fo1 do2 fo2 BX9 BO 
                    generalize (((wr.setCell ⟨bo, 0, none⟩ (.string ⟨#[]⟩)).setCell ⟨bo, 1, none⟩ (.int .i64 0)).setCell ⟨bo, 2, none⟩ (.int .i64 ne')).drew = W151 at Bx_151 Bo_151 Hw151  ⊢
                    go_wp2
                    exact post_ttc Try.underlying53 rfl size62 Try.results22 Bo_151 rfl rfl rfl rfl rfl ⟨.slice none 0 0, .slice none 0 0, by rw [HR.out.2.2]; rfl, by rw [HR.out.1]; exact ownF_nil _ _, by rw [HR.out.2.1]; exact ownP_nil _ _ _, Hw151⟩
                  · subst he
                    have HR : Hid (tF = L ∧ tL = M ∧ tX = ⟨ns, na, 0⟩) := Lib.hid (by
                      obtain ⟨h1, h2, h3, h4⟩ := HTL.out
                      rw [HEX2.out (Or.inl (by omega))] at h1 h3
                      rw [h1, if_pos rfl] at h2 h3 h4
                      exact ⟨h2, h3, h4⟩)
                    have HOF := Lib.hid hof
                    have HOW := Lib.hid hown
                    clear HTL HEX2 HST2 HFV hps hown hof hlen
                    have HB9 := HB.out
                    have BX9 : Blk wr bx #[.string ns, .int .i64 na, .int .i64 0] 53 := BX
                    clear BX
                    go_wp2_with fail
                    clear cx2
                    have HC151 : Hid (∀ w', But bo bo wr w' → w'.cell? ⟨bx, 0, none⟩ = some (.string ns) ∧ w'.cell? ⟨bx, 1, none⟩ = some (.int .i64 na) ∧ w'.cell? ⟨bx, 2, none⟩ = some (.int .i64 0)) := Lib.hid fun w' hw' => ⟨(BX9.but hw' nxo nxo).cell 0, (BX9.but hw' nxo nxo).cell 1, (BX9.but hw' nxo nxo).cell 2⟩
                    have hd151 : Below wr.heap.size wr wr.drew := bq_drew (bq_refl wr)
                    have do0 : wr.cell? ⟨bo, 0, none⟩ = some (.string ⟨#[]⟩) := BO.cell 0
                    have fo0 := BO.frozen 0
                    have do1 : wr.cell? ⟨bo, 1, none⟩ = some (.int .i64 0) := BO.cell 1
                    have fo1 := BO.frozen 1
                    have do2 : wr.cell? ⟨bo, 2, none⟩ = some (.int .i64 0) := BO.cell 2
                    have fo2 := BO.frozen 2
                    go_region_held3 (fun w' => w'.cell? ⟨bx, 0, none⟩ = some (.string ns) ∧ w'.cell? ⟨bx, 1, none⟩ = some (.int .i64 na) ∧ w'.cell? ⟨bx, 2, none⟩ = some (.int .i64 0))
                      ((refine HC151.out _ ?_; repeat' (first | (with_reducible refine But.setp _ _ ?_) | (with_reducible refine But.setq _ _ ?_) | (with_reducible refine But.drw ?_) | (with_reducible exact But.of (by assumption)) | (with_reducible exact But.of (bq_refl _)))))
                      (fail)
                    have Bx_151 := (((BX9.other (a := ⟨bo, 0, none⟩) (.string ns) nxo).other (a := ⟨bo, 1, none⟩) (.int .i64 na) nxo).other (a := ⟨bo, 2, none⟩) (.int .i64 0) nxo).drew
                    have Bo_151 : Blk (((wr.setCell ⟨bo, 0, none⟩ (.string ns)).setCell ⟨bo, 1, none⟩ (.int .i64 na)).setCell ⟨bo, 2, none⟩ (.int .i64 0)).drew bo #[.string ns, .int .i64 na, .int .i64 0] 53 := (((BO.set 0 (.string ns)).set 1 (.int .i64 na)).set 2 (.int .i64 0)).drew
                    have Hw151 : Below w.heap.size w (((wr.setCell ⟨bo, 0, none⟩ (.string ns)).setCell ⟨bo, 1, none⟩ (.int .i64 na)).setCell ⟨bo, 2, none⟩ (.int .i64 0)).drew := bq_drew (bq_set (bq_set (bq_set HB9 ⟨bo, 0, none⟩ go (.string ns)) ⟨bo, 1, none⟩ go (.int .i64 na)) ⟨bo, 2, none⟩ go (.int .i64 0))
                    clear HC151 hd151 do0 fo0 do1 fo1 do2 fo2 BX9 BO HB9 
                    have HBO : But bo bo wr (((wr.setCell ⟨bo, 0, none⟩ (.string ns)).setCell ⟨bo, 1, none⟩ (.int .i64 na)).setCell ⟨bo, 2, none⟩ (.int .i64 0)).drew := But.drw (But.setp _ _ (But.setp _ _ (But.setp _ _ (but_refl _ _ _))))
                    generalize (((wr.setCell ⟨bo, 0, none⟩ (.string ns)).setCell ⟨bo, 1, none⟩ (.int .i64 na)).setCell ⟨bo, 2, none⟩ (.int .i64 0)).drew = W151 at HBO Bx_151 Bo_151 Hw151  ⊢
                    go_wp2
                    exact post_ttc Try.underlying53 rfl size62 Try.results22 Bo_151 rfl rfl rfl rfl rfl ⟨v, v2, by rw [HR.out.2.2]; rfl, by rw [HR.out.1]; exact ((HOF.out.but HBO (Or.inl ltoA)).f).weaken leA, by rw [HR.out.2.1]; exact (HOW.out.but HBO ltoC ltoC).weaken leC, Hw151⟩
end Go.Proofs.Ythlnjipefeglpaa
