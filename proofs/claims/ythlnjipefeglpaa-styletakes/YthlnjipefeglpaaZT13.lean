import Derived.Test.YthlnjipefeglpaaZT12
namespace Go.Proofs.Ythlnjipefeglpaa
open Go.RowKit
set_option linter.unusedVariables false
section
variable {ops : Array Oper} {rest : List Oper} {o : Oper} {a : Act} {w : World} {Q : Exit → Act → World → Prop}
theorem wl_mkI (l c : Operand) (ho : o.op = .makeSlice 90 l c) (hgd : o.guard = none) (n : Nat) (hl : a.eval l = .int .i64 (n : Int)) (hcc : a.eval c = .int .i64 (n : Int)) (hn : n ≤ 1000000)
    (h : ∀ W b, Blk W b (iA (List.replicate n 0)) 3 → w.heap.size ≤ b → Below w.heap.size w W → wpList Try.prog ops Q rest (a.put o.dst (.slice (some ⟨b, 0, none⟩) n n)) W) : wpList Try.prog ops Q (o :: rest) a w := by
  obtain ⟨i0, hi, h2⟩ := Option.map_eq_some_iff.1 int_info
  have e : Array.replicate n (Value.int .i64 0) = iA (List.replicate n 0) := by
    apply Array.ext'
    simp [iA]
  refine wl_make 90 3 i0 (.int .i64 0) Try.underlying90 hi (congrArg (·.1) h2) (congrArg (·.2.1) h2) (by have := congrArg (·.2.2) h2; simp at this; omega) rfl l c ho hgd n hl hcc hn ?_
  rw [e]
  exact h
end
def fillN (N : Nat) (l : List Int) : List Int := l ++ List.replicate (N - l.length) 0
theorem fillN_len (N : Nat) (l : List Int) (h : l.length ≤ N) : (fillN N l).length = N := by simp [fillN]; omega
theorem fillN_all (N : Nat) (l : List Int) (h : l.length = N) : fillN N l = l := by simp [fillN, h]
theorem fillN_set (N : Nat) (l : List Int) (v : Int) (h : l.length < N) : (iA (fillN N l)).setIfInBounds l.length (.int .i64 v) = iA (fillN N (l ++ [v])) := by
  apply Array.ext'
  rw [Array.toList_setIfInBounds]
  simp only [iA, fillN]
  obtain ⟨k, hk⟩ : ∃ k, N - l.length = k + 1 := ⟨N - l.length - 1, by omega⟩
  have e : N - (l ++ [v]).length = k := by simp; omega
  rw [hk, e, List.replicate_succ]
  simp
def SvRel (w : World) (y : RS) (n : Int) (N bx bo bg : Nat) (i : Value) (wr : World) : Prop :=
  ∃ k : Nat, k ≤ N ∧ i = .int .i64 k ∧ Blk wr bx (y.on n k).cells 53 ∧ Blk wr bg (iA (fillN N (y.l n k))) 3 ∧ Blk wr bo #[.string ⟨#[]⟩, .int .i64 0, .int .i64 0] 53 ∧ Below w.heap.size w wr
theorem size3s : (Try.prog.info? 3).map (·.size) = some 1 := by kernel_rfl
set_option maxHeartbeats 2000000 in
theorem several_any (x : RS) (h : Int) (N : Nat) (w : World) (hs : x.s.size ≤ 1000000) (hN : N ≤ 1000000) :
    Calls Try.prog 97 #[.agg x.cells, .int .i64 h, .int .i64 N] w fun e w' => ∃ g, e = .returned (.tuple #[.slice (some ⟨g, 0, none⟩) N N, .agg (x.sevS h N).cells]) ∧ Blk w' g (iA (x.sevL h N)) 3 ∧ w.heap.size ≤ g ∧ Below w.heap.size w w' := by
  have HP := Lib.hid (fun W => rplain_any x h W hs)
  have HS := Lib.hid (fun k W => rsigned_any ((x.go h).on (x.pl h) k) (x.pl h) W (RS.on_size _ _ _ (RS.go_size _ _ hs)))
  unfold RS.sevS RS.sevL
  clear hs
  generalize x.pl h = n at *
  generalize x.go h = y at *
  go_enter Try.func97, Try.ntmps97
  go_wp2_with (first
    | (refine wl_box 53 _ _ rfl rfl (show _ = Value.agg x.cells from rfl) ?_; intro W1 bx Bx_1 l1 k1; have gx : w.heap.size ≤ bx := l1; have Hw1 := k1; clear l1 k1)
    | (refine wl_alloc 53 _ zero62 rfl rfl ?_; intro W2 bo Bo_2 l2 k2; have go : w.heap.size ≤ bo := Nat.le_trans Hw1.size l2; have nxo : bx ≠ bo := Nat.ne_of_lt (Nat.lt_of_lt_of_le Bx_1.lt l2); have Bx_2 := Bx_1.keep k2; have Hw2 := bq_trans Hw1 k2; clear l2 k2 Bx_1 Hw1)
    | (refine wl_load 53 3 _ Try.underlying53 rfl size62 _ rfl rfl _ rfl _ _ Bx_2 rfl ?_)
    | (go_at_call 95; (with_reducible refine (HP.out _).mono ?_); rintro e W3 ⟨rfl, k3⟩; have Bx_3 := Bx_2.keep k3; have Bo_3 := Bo_2.keep k3; have Hw3 := bq_trans Hw2 k3; clear k3 Bx_2 Bo_2 Hw2)
    | (refine wl_store 53 3 size62 _ _ rfl rfl _ rfl _ rfl _ _ Bx_3 rfl rfl (by kernel_rfl) ?_; intro W4 Bx_4 T4; have Bo_4 := T4.blk Bo_3 (Ne.symm nxo); have Hw4 := T4.below Hw3 gx; clear T4 Bo_3 Bx_3 Hw3)
    | (refine wl_mkI _ _ rfl rfl N rfl rfl hN ?_; intro W5 bg Bg_5 l5 k5; have gg : w.heap.size ≤ bg := Nat.le_trans Hw4.size l5; have nxg : bx ≠ bg := Nat.ne_of_lt (Nat.lt_of_lt_of_le Bx_4.lt l5); have nog : bo ≠ bg := Nat.ne_of_lt (Nat.lt_of_lt_of_le Bo_4.lt l5); have Bx_5 := Bx_4.keep k5; have Bo_5 := Bo_4.keep k5; have Hw5 := bq_trans Hw4 k5; clear l5 k5 Bx_4 Bo_4 Hw4))
  have HB := Lib.hid Hw5
  have C0 : Blk W5 bg (iA (fillN N (y.l n 0))) 3 := by unfold fillN; exact Bg_5
  have CX := Bx_5
  have CO := Bo_5
  clear Hw5 Bx_5 Bo_5 Bg_5
  go_loopw [10] (fun i wr => SvRel w y n N bx bo bg i wr) (fun i _ => N - (intOf i).toNat)
  case atStart => exact ⟨0, by omega, rfl, CX, C0, CO, HB.out⟩
  case round =>
    obtain ⟨k, hk, rfl, X, G, O, hbel⟩ := hrel
    have HB2 := Lib.hid hbel
    clear hbel CX C0 CO HB HP
    by_cases hlt : k < N
    · have HF : Hid ((iA (fillN N (y.l n k))).setIfInBounds k (.int .i64 ((y.on n k).sg n)) = iA (fillN N (y.l n (k + 1)))) := Lib.hid (by
        have := fillN_set N (y.l n k) ((y.on n k).sg n) (by rw [RS.l_len]; omega)
        rw [RS.l_len] at this
        exact this)
      have HS2 : Hid (∀ W, Calls Try.prog 106 #[.agg (y.on n k).cells, .int .i64 n] W fun e w' => e = .returned (.tuple #[.int .i64 ((y.on n k).sg n), .agg (y.on n (k + 1)).cells]) ∧ Below W.heap.size W w') := Lib.hid fun W => HS.out k W
      have hsz : k < (iA (fillN N (y.l n k))).size := by rw [iA_size, fillN_len _ _ (by rw [RS.l_len]; omega)]; omega
      generalize (y.on n k).sg n = v at *
      go_wp2_with (first
        | (refine wl_load 53 3 _ Try.underlying53 rfl size62 _ rfl rfl _ rfl _ _ X rfl ?_)
        | (go_at_call 106; (with_reducible refine (HS2.out _).mono ?_); rintro e w2 ⟨rfl, k2⟩; have X2 := X.keep k2; have G2 := G.keep k2; have O2 := O.keep k2)
        | (refine wl_set 3 _ _ rfl rfl bg k rfl (.int .i64 v) rfl rfl size3s _ _ G2 hsz ?_; intro W3 G3 T3; have X3 := T3.blk X2 nxg; have O3 := T3.blk O2 nog)
        | (refine wl_store 53 3 size62 _ _ rfl rfl _ rfl _ rfl _ _ X3 rfl rfl (by kernel_rfl) ?_; intro W4 X4 T4; have G4 := T4.blk G3 (Ne.symm nxg); have O4 := T4.blk O3 (Ne.symm nxo)))
      rw [HF.out] at G4
      have HB3 := Lib.hid (T4.below (T3.below (bq_trans HB2.out k2) gg) gx)
      go_roundw
      case rel => exact ⟨k + 1, by omega, by go_num, X4, G4, O4, HB3.out⟩
      case measure => simp [intOf]; omega
    · obtain rfl : k = N := by omega
      rw [fillN_all _ _ (RS.l_len y n k)] at G
      have HG := Lib.hid G
      have BO := Lib.hid O
      have nox := Ne.symm nxo
      have X' : Blk wr bx #[.string (y.on n k).s, .int .i64 (y.on n k).a, .int .i64 (y.on n k).e] 53 := X
      have HC : Hid (∀ w', But bo bo wr w' → w'.cell? ⟨bx, 0, none⟩ = some (.string (y.on n k).s) ∧ w'.cell? ⟨bx, 1, none⟩ = some (.int .i64 (y.on n k).a) ∧ w'.cell? ⟨bx, 2, none⟩ = some (.int .i64 (y.on n k).e)) := Lib.hid fun w' hw' => ⟨(X'.but hw' nxo nxo).cell 0, (X'.but hw' nxo nxo).cell 1, (X'.but hw' nxo nxo).cell 2⟩
      have hd0 : Below wr.heap.size wr wr.drew := bq_drew (bq_refl wr)
      have d0 := BO.out.cell 0
      have d1 := BO.out.cell 1
      have d2 := BO.out.cell 2
      have f0 := BO.out.frozen 0
      have f1 := BO.out.frozen 1
      have f2 := BO.out.frozen 2
      obtain ⟨zs, hzs⟩ : ∃ z, z = (y.on n k).s := ⟨_, rfl⟩
      obtain ⟨za, hza⟩ : ∃ z, z = (y.on n k).a := ⟨_, rfl⟩
      obtain ⟨ze, hze⟩ : ∃ z, z = (y.on n k).e := ⟨_, rfl⟩
      have HZ : Hid ((y.on n k).cells = #[.string zs, .int .i64 za, .int .i64 ze]) := Lib.hid (by rw [hzs, hza, hze]; rfl)
      rw [← hzs, ← hza, ← hze] at HC
      clear X X' O G hzs hza hze
      go_wp2_with fail
      go_region_held3 (fun w' => w'.cell? ⟨bx, 0, none⟩ = some (.string zs) ∧ w'.cell? ⟨bx, 1, none⟩ = some (.int .i64 za) ∧ w'.cell? ⟨bx, 2, none⟩ = some (.int .i64 ze))
        ((refine HC.out _ ?_; repeat' (first | (with_reducible refine But.setp _ _ ?_) | (with_reducible refine But.setq _ _ ?_) | (with_reducible refine But.drw ?_) | (with_reducible exact But.of (by assumption)) | (with_reducible exact But.of (bq_refl _)))))
        (fail)
      have R9 : Blk (((wr.setCell ⟨bo, 0, none⟩ (.string zs)).setCell ⟨bo, 1, none⟩ (.int .i64 za)).setCell ⟨bo, 2, none⟩ (.int .i64 ze)).drew bo #[.string zs, .int .i64 za, .int .i64 ze] 53 := (((BO.out.set 0 _).set 1 _).set 2 _).drew
      have G9 : Blk (((wr.setCell ⟨bo, 0, none⟩ (.string zs)).setCell ⟨bo, 1, none⟩ (.int .i64 za)).setCell ⟨bo, 2, none⟩ (.int .i64 ze)).drew bg (iA (y.l n k)) 3 := (((HG.out.other _ (Ne.symm nog)).other _ (Ne.symm nog)).other _ (Ne.symm nog)).drew
      go_wp2
      exact post_tmp_cell (v := .slice (some ⟨bg, 0, none⟩) k k) Try.underlying53 rfl size62 Try.results97 R9 rfl rfl rfl rfl ⟨bg, by rw [HZ.out], G9, gg, bq_drew (bq_set (bq_set (bq_set HB2.out _ go _) _ go _) _ go _)⟩
end Go.Proofs.Ythlnjipefeglpaa
namespace Go.Proofs.Ythlnjipefeglpaa
open Go.RowKit
set_option linter.unusedVariables false
end Go.Proofs.Ythlnjipefeglpaa
