import Derived.Test.YtoofjcpapidgdaaBl6
import Derived.Test.YtoofjcpapidgdaaBl3
/- Layer 2: BitsBack, its walk. -/
namespace Go.Proofs.Ytoofjcpapidgdaa
open Go.RowKit
set_option linter.unusedVariables false

def BbRel (w : World) (zs : List Fd) (x i : Value) (wx : World) : Prop :=
  ∃ k : Nat, k ≤ zs.length ∧ k ≤ 40 ∧ i = .int .i64 k ∧ Box wx w.heap.size (.string (bs (wrF (psAt zs k)).1)) (.int .i64 ((wrF (psAt zs k)).2 : Nat)) ∧
    wx.ownsRow (w.heap.size + 1) 57 3 x (psAt zs k).length (cellsF (psAt zs k)) ∧ Below w.heap.size w wx
def SwRel (p : Fd) (x : List UInt8 × Nat) (xb : Nat) (w0 : World) (e : Value) (wx : World) : Prop :=
  ∃ s2 f2 E, PutRel1 p x s2 f2 E ∧ e = .int .i64 E ∧ Box wx xb (.string s2) (.int .i64 f2) ∧ Below w0.heap.size w0 wx
def RdRel (w0 : World) (ps : List Fd) (i : Value) (wx : World) : Prop :=
  ∃ k : Nat, k ≤ ps.length ∧ i = .int .i64 k ∧ Box wx w0.heap.size (.string (bs (wrF ps).1)) (.int .i64 ((pos (wrF (ps.take k)) : Nat) : Int)) ∧ Below w0.heap.size w0 wx
def SwRel2 (w0 : World) (s : ByteArray) (ps2 V : Int) (fb : Nat) (v e : Value) (wx : World) : Prop :=
  v = .int .i64 V ∧ e = .int .i64 0 ∧ Box wx w0.heap.size (.string s) (.int .i64 ps2) ∧ wx.cell? ⟨fb, 1, none⟩ = some (.int .i64 V) ∧ Below w0.heap.size w0 wx
attribute [local go_sem ↓] Go.wp_at_zero Go.wp_at_succ
set_option maxRecDepth 100000 in
set_option maxHeartbeats 16000000 in
theorem back_few (zs : List Fd) (a : Option Addr) (b o c : Nat) (w : World) (hl : zs.length ≤ 9223372036854775807) (ha : Hid (zs.length = 0 ∨ a = some ⟨b, o, none⟩ ∧ b < w.heap.size))
    (hf : Hid (∀ p ∈ zs, p.fit)) (hkk : Hid (∀ p ∈ zs, -9223372036854775808 ≤ p.k ∧ p.k ≤ 9223372036854775807))
    (hc : Hid (∀ i (h : i < zs.length), w.cell? ⟨b, o + i * 3, none⟩ = some (.int .i64 zs[i].k) ∧ w.cell? ⟨b, o + i * 3 + 1, none⟩ = some (.int .i64 zs[i].v) ∧ w.cell? ⟨b, o + i * 3 + 2, none⟩ = some (.int .i64 zs[i].n))) :
    Calls Try.prog 7 #[.slice a zs.length c] w fun e w' => e = .returned (.bool true) ∧ Below w.heap.size w w' := by
  go_enter Try.func7, Try.ntmps7
  go_wp2_with fail
  go_loopw [4, 5] (fun x i wx => BbRel w zs x i wx) (fun _ i _ => zs.length - (intOf i).toNat)
  case atStart => exact ⟨0, by omega, by omega, rfl, box_new w _ _ _, World.ownsRow_nil _ _ _ _, bq_alloc (bq_refl w) _⟩
  case round =>
    obtain ⟨k, hk, hk40, rfl, hbx, hrow, hbel⟩ := hrel
    by_cases hlt : k < zs.length
    · by_cases h40 : k < 40
      · obtain ⟨rfl, hlt0⟩ := ha.out.resolve_left (by omega)
        obtain ⟨x0, x1, x2⟩ := hc.out k hlt
        obtain ⟨hsnd, hlen⟩ := wrAt_snd zs hf.out k
        have hfit := hf.out zs[k] (List.getElem_mem _)
        have hkb := hkk.out zs[k] (List.getElem_mem _)
        have hsucc := psAt_succ zs k hlt
        have hplen := psAt_len zs k
        obtain ⟨p, hp⟩ : ∃ p, p = zs[k] := ⟨_, rfl⟩
        rw [← hp] at x0 x1 x2 hfit hkb hsucc
        obtain ⟨ps, hps⟩ : ∃ ps, ps = psAt zs k := ⟨_, rfl⟩
        rw [← hps] at hbx hrow hsnd hlen hsucc hplen
        obtain ⟨X, hX⟩ : ∃ X, X = wrF ps := ⟨_, rfl⟩
        rw [← hX] at hbx hsnd hlen
        obtain ⟨s', hs'⟩ : ∃ s', s' = bs X.1 := ⟨_, rfl⟩
        obtain ⟨f', hf'⟩ : ∃ f', f' = X.2 := ⟨_, rfl⟩
        rw [← hs', ← hf'] at hbx
        obtain ⟨q, hq⟩ : ∃ q, q = p.kind := ⟨_, rfl⟩
        have hkv := kind_val p hkb.1 hkb.2
        rw [← hq] at hkv
        have hq4 : q < 4 := by rw [hq]; exact p.kind_lt
        obtain ⟨K, hK⟩ : ∃ K, K = p.k := ⟨_, rfl⟩
        obtain ⟨V, hV⟩ : ∃ V, V = p.v := ⟨_, rfl⟩
        obtain ⟨N, hN⟩ : ∃ N, N = p.n := ⟨_, rfl⟩
        rw [← hK] at x0 hkv
        rw [← hV] at x1
        rw [← hN] at x2
        have HSB := Lib.hid hs'
        have HFB := Lib.hid hf'
        have HKK := Lib.hid hK
        have HVV := Lib.hid hV
        have HNN := Lib.hid hN
        have HQQ := Lib.hid hq
        have HPP := Lib.hid hp
        have HPS := Lib.hid hps
        have HXX := Lib.hid hX
        have HSUCC := Lib.hid hsucc
        have HKV := Lib.hid hkv
        have HROW := Lib.hid hrow
        have HSND := Lib.hid hsnd
        have HFIT := Lib.hid hfit
        have hXl : X.1.length ≤ 200 := by omega
        have y0 := (hbel.cell (p := ⟨b, o + k * 3, none⟩) hlt0).trans x0
        have y1 := (hbel.cell (p := ⟨b, o + k * 3 + 1, none⟩) hlt0).trans x1
        have y2 := (hbel.cell (p := ⟨b, o + k * 3 + 2, none⟩) hlt0).trans x2
        have hsz := hbel.size
        have HB := Lib.hid hbel
        have RB0 := Lib.hid hbx
        obtain ⟨c0, c1, f0, f1, cz⟩ := hbx
        clear hbel x0 x1 x2 hs' hf' hK hV hN hq hp hps hX hsucc hkv hrow hsnd hfit hkb ha
        have i1 : (0 : Int) ≤ (k : Int) := by omega
        have i2 : (k : Int) < (zs.length : Int) := by omega
        go_upto_region 7 with (fail)
        have hbw : b < wr.heap.size := by omega
        have OB := Lib.hid (box_new wr (.string s') (.int .i64 (f' : Int)) 40)
        have HWr := Lib.hid (bq_alloc (bq_refl wr) (.cells #[.string s', .int .i64 (f' : Int)] 40))
        have RB := Box.alloc ⟨c0, c1, f0, f1, cz⟩ (.cells #[.string s', .int .i64 (f' : Int)] 40)
        have ltW : wr.heap.size < (wr.alloc (.cells #[.string s', .int .i64 (f' : Int)] 40)).heap.size := by simp
        clear c0 c1 f0 f1 cz
        generalize wr.alloc (.cells #[.string s', .int .i64 (f' : Int)] 40) = W at OB HWr RB ltW ⊢
        have z0 := (HWr.out.cell (p := ⟨b, o + k * 3, none⟩) hbw).trans y0
        have z1 := (HWr.out.cell (p := ⟨b, o + k * 3 + 1, none⟩) hbw).trans y1
        have z2 := (HWr.out.cell (p := ⟨b, o + k * 3 + 2, none⟩) hbw).trans y2
        have hbW : b < W.heap.size := by omega
        go_upto_block 2 with (fail)
        rw [HKV.out]
        have HS : Hid (∀ w', Below W.heap.size W w' → w'.cell? ⟨w.heap.size, 0, none⟩ = some (.string s') ∧ w'.cell? ⟨w.heap.size, 1, none⟩ = some (.int .i64 (f' : Int)) ∧ w'.cell? ⟨b, o + k * 3 + 1, none⟩ = some (.int .i64 V) ∧ w'.cell? ⟨b, o + k * 3 + 2, none⟩ = some (.int .i64 N)) := Lib.hid (fun w' h => by
          have k1 := RB.keep h
          exact ⟨k1.1, k1.2.1, (h.cell (p := ⟨b, o + k * 3 + 1, none⟩) hbW).trans z1, (h.cell (p := ⟨b, o + k * 3 + 2, none⟩) hbW).trans z2⟩)
        have HS2 : Hid (∀ w', Below wr.heap.size wr w' → w'.cell? ⟨w.heap.size, 0, none⟩ = some (.string s') ∧ w'.cell? ⟨w.heap.size, 1, none⟩ = some (.int .i64 (f' : Int)) ∧ w'.cell? ⟨b, o + k * 3 + 1, none⟩ = some (.int .i64 V) ∧ w'.cell? ⟨b, o + k * 3 + 2, none⟩ = some (.int .i64 N)) := Lib.hid (fun w' h => by
          have k1 := RB0.out.keep h
          exact ⟨k1.1, k1.2.1, (h.cell (p := ⟨b, o + k * 3 + 1, none⟩) hbw).trans y1, (h.cell (p := ⟨b, o + k * 3 + 2, none⟩) hbw).trans y2⟩)
        have HY := Lib.hid (And.intro y0 (And.intro y1 y2))
        have hd0 : Below W.heap.size W W.drew := bq_drew (bq_refl _)
        clear y0 y1 y2 z0
        go_cut [7] (fun e wx => SwRel p X wr.heap.size wr e wx)
        case first =>
          rcases (show q = 0 ∨ q = 1 ∨ q = 2 ∨ q = 3 by omega) with rfl | rfl | rfl | rfl
          · obtain ⟨s2, f2, E, hrel2, hcon⟩ := put_k0 p X HSND.out (by omega) HQQ.out.symm
            rw [← HSB.out, ← HFB.out, ← HVV.out, ← HNN.out] at hcon
            have HREL := Lib.hid hrel2
            have HIN : Hid (∀ w', Below W.heap.size W w' → Calls Try.prog 21 #[.agg #[.string s', .int .i64 (f' : Int)], .int .i64 V, .int .i64 N] w' fun e w'' => e = .returned (.tuple #[.agg #[.string s2, .int .i64 f2], .int .i64 E]) ∧ Below W.heap.size W w'') := Lib.hid (fun w' h => (hcon w').mono fun _ _ ⟨he, hb⟩ => ⟨he, bq_trans h hb⟩)
            clear hrel2 hcon
            go_wp2_with fail
            go_region_held3 (fun w' => w'.cell? ⟨w.heap.size, 0, none⟩ = some (.string s') ∧ w'.cell? ⟨w.heap.size, 1, none⟩ = some (.int .i64 (f' : Int)) ∧ w'.cell? ⟨b, o + k * 3 + 1, none⟩ = some (.int .i64 V) ∧ w'.cell? ⟨b, o + k * 3 + 2, none⟩ = some (.int .i64 N))
              (first | exact HS.out _ (by assumption) | exact HS2.out _ (bq_set (bq_set (by assumption) _ (by simp) _) _ (by simp) _))
              (first | (go_at_call 21; refine (HIN.out _ (by assumption)).mono ?_; rintro e w9 ⟨rfl, hb9⟩; obtain ⟨q0, q1, r0, r1, qz⟩ := OB.out.keep hb9; have hb8 := bq_trans HWr.out hb9))
            go_wp2_with fail
            go_meet
            case rel => exact ⟨s2, f2, E, HREL.out, rfl, (Box.set0 ⟨q0, q1, r0, r1, qz⟩ _).set1 _, bq_set (bq_set hb8 _ (by simp) _) _ (by simp) _⟩
          · obtain ⟨s2, f2, E, hrel2, hcon⟩ := put_k1 p X HSND.out (by omega) HQQ.out.symm HFIT.out
            rw [← HSB.out, ← HFB.out, ← HVV.out, ← HNN.out] at hcon
            have HREL := Lib.hid hrel2
            have HIN : Hid (∀ w', Below W.heap.size W w' → Calls Try.prog 22 #[.agg #[.string s', .int .i64 (f' : Int)], .int .i64 V, .int .i64 N] w' fun e w'' => e = .returned (.tuple #[.agg #[.string s2, .int .i64 f2], .int .i64 E]) ∧ Below W.heap.size W w'') := Lib.hid (fun w' h => (hcon w').mono fun _ _ ⟨he, hb⟩ => ⟨he, bq_trans h hb⟩)
            clear hrel2 hcon
            go_wp2_with fail
            go_region_held3 (fun w' => w'.cell? ⟨w.heap.size, 0, none⟩ = some (.string s') ∧ w'.cell? ⟨w.heap.size, 1, none⟩ = some (.int .i64 (f' : Int)) ∧ w'.cell? ⟨b, o + k * 3 + 1, none⟩ = some (.int .i64 V) ∧ w'.cell? ⟨b, o + k * 3 + 2, none⟩ = some (.int .i64 N))
              (first | exact HS.out _ (by assumption) | exact HS2.out _ (bq_set (bq_set (by assumption) _ (by simp) _) _ (by simp) _))
              (first | (go_at_call 22; refine (HIN.out _ (by assumption)).mono ?_; rintro e w9 ⟨rfl, hb9⟩; obtain ⟨q0, q1, r0, r1, qz⟩ := OB.out.keep hb9; have hb8 := bq_trans HWr.out hb9))
            go_wp2_with fail
            go_meet
            case rel => exact ⟨s2, f2, E, HREL.out, rfl, (Box.set0 ⟨q0, q1, r0, r1, qz⟩ _).set1 _, bq_set (bq_set hb8 _ (by simp) _) _ (by simp) _⟩
          · obtain ⟨s2, f2, E, hrel2, hcon⟩ := put_k2 p X HSND.out (by omega) HQQ.out.symm
            rw [← HSB.out, ← HFB.out, ← HVV.out, ← HNN.out] at hcon
            have HREL := Lib.hid hrel2
            have HIN : Hid (∀ w', Below W.heap.size W w' → Calls Try.prog 23 #[.agg #[.string s', .int .i64 (f' : Int)], .int .i64 V, .int .i64 N] w' fun e w'' => e = .returned (.tuple #[.agg #[.string s2, .int .i64 f2], .int .i64 E]) ∧ Below W.heap.size W w'') := Lib.hid (fun w' h => (hcon w').mono fun _ _ ⟨he, hb⟩ => ⟨he, bq_trans h hb⟩)
            clear hrel2 hcon
            go_wp2_with fail
            go_region_held3 (fun w' => w'.cell? ⟨w.heap.size, 0, none⟩ = some (.string s') ∧ w'.cell? ⟨w.heap.size, 1, none⟩ = some (.int .i64 (f' : Int)) ∧ w'.cell? ⟨b, o + k * 3 + 1, none⟩ = some (.int .i64 V) ∧ w'.cell? ⟨b, o + k * 3 + 2, none⟩ = some (.int .i64 N))
              (first | exact HS.out _ (by assumption) | exact HS2.out _ (bq_set (bq_set (by assumption) _ (by simp) _) _ (by simp) _))
              (first | (go_at_call 23; refine (HIN.out _ (by assumption)).mono ?_; rintro e w9 ⟨rfl, hb9⟩; obtain ⟨q0, q1, r0, r1, qz⟩ := OB.out.keep hb9; have hb8 := bq_trans HWr.out hb9))
            go_wp2_with fail
            go_meet
            case rel => exact ⟨s2, f2, E, HREL.out, rfl, (Box.set0 ⟨q0, q1, r0, r1, qz⟩ _).set1 _, bq_set (bq_set hb8 _ (by simp) _) _ (by simp) _⟩
          · obtain ⟨c0, c1, f0, f1, cz⟩ := RB
            go_wp2_with fail
            refine (putalign_any s' _ _).mono ?_
            rintro e w9 ⟨rfl, hb9⟩
            obtain ⟨q0, q1, r0, r1, qz⟩ := OB.out.keep hb9
            have hb8 := bq_trans HWr.out hb9
            go_wp2_with fail
            go_meet
            case rel => exact ⟨s', 0, 0, by rw [HSB.out]; exact put_k3 p X HQQ.out.symm, rfl, (Box.set0 ⟨q0, q1, r0, r1, qz⟩ _).set1 _, bq_set (bq_set hb8 _ (by simp) _) _ (by simp) _⟩
        case rest =>
          obtain ⟨s2, f2, E, hrel2, rfl, hob, hbx2⟩ := hcut
          have HR0 := Lib.hid (RB0.out.keep hbx2)
          have HROW2 := Lib.hid (own_below HROW.out hbx2)
          have HBL := Lib.hid (bq_trans HB.out hbx2)
          have hsz2 := hbx2.size
          obtain ⟨y0, y1, y2⟩ := HY.out
          have v0 := (hbx2.cell (p := ⟨b, o + k * 3, none⟩) hbw).trans y0
          have v1 := (hbx2.cell (p := ⟨b, o + k * 3 + 1, none⟩) hbw).trans y1
          have v2 := (hbx2.cell (p := ⟨b, o + k * 3 + 2, none⟩) hbw).trans y2
          clear hbx2 HY y0 y1 y2 RB z1 z2
          rcases hrel2 with ⟨hE, hok, hs2, hf2⟩ | ⟨hE, hok⟩
          · have HSU : Hid (psAt zs (k + 1) = ps ++ [p]) := Lib.hid (by rw [HSUCC.out, if_pos hok])
            have HS2' : Hid (s2 = bs (wrF (ps ++ [p])).1) := Lib.hid (by rw [wr_snoc, ← HXX.out]; exact hs2)
            have HF2' : Hid (f2 = ((wrF (ps ++ [p])).2 : Nat)) := Lib.hid (by rw [wr_snoc, ← HXX.out]; exact hf2)
            clear hs2 hf2 hok
            have nb : u4.ownBlock ≠ some b := by intro h; have := (HROW2.out.lt b h).1; omega
            have nx : u4.ownBlock ≠ some wr.heap.size := by intro h; have := (HROW.out.lt wr.heap.size h).2; omega
            have nw : u4.ownBlock ≠ some w.heap.size := by intro h; have := (HROW2.out.lt w.heap.size h).1; omega
            have hbase : w.heap.size + 1 ≤ wc.heap.size := by have := HR0.out.2.2.2.2; omega
            obtain ⟨xa, xb, _, _, xz⟩ := hob
            have hbc : b < wc.heap.size := by omega
            have h63 : ps.length + 1 ≤ maxLen := by have : (41 : Nat) ≤ maxLen := by decide
                                                    omega
            obtain ⟨i0, hi0, hz0, hz1, hz2⟩ := info_parts field_info
            obtain ⟨wa, wb, wf0, wf1, wz⟩ := HR0.out
            have ne1 : ¬ w.heap.size = wr.heap.size := by have := RB0.out.2.2.2.2; omega
            have ne2 : ¬ w.heap.size = b := by omega
            have NB := Lib.hid nb
            have NX := Lib.hid nx
            have NW := Lib.hid nw
            have H63 := Lib.hid h63
            clear nb nx nw h63
            go_wp2_with fail
            go_region_held3 (fun w' => w'.cell? ⟨wr.heap.size, 0, none⟩ = some (.string s2) ∧ w'.cell? ⟨wr.heap.size, 1, none⟩ = some (.int .i64 f2) ∧ w'.cell? ⟨b, o + k * 3, none⟩ = some (.int .i64 K) ∧ w'.cell? ⟨b, o + k * 3 + 1, none⟩ = some (.int .i64 V) ∧ w'.cell? ⟨b, o + k * 3 + 2, none⟩ = some (.int .i64 N))
              (first
                | go_keep
                | (go_split_ands
                   refine ⟨?_, ?_, ?_, ?_, ?_⟩
                   · (rw [hgrow.cell_far _ (by simp; omega) (Ne.symm NX.out)]; assumption)
                   · (rw [hgrow.cell_far _ (by simp; omega) (Ne.symm NX.out)]; assumption)
                   · (rw [hgrow.cell_far _ (by simp; omega) (Ne.symm NB.out)]; assumption)
                   · (rw [hgrow.cell_far _ (by simp; omega) (Ne.symm NB.out)]; assumption)
                   · (rw [hgrow.cell_far _ (by simp; omega) (Ne.symm NB.out)]; assumption)))
              ((refine step_append_lies _ (by rfl) _ _ _ (by rfl) (w.heap.size + 1) 57 i0 _ 3 24 Try.underlying54 hi0 hz0 hz1 hz2 rfl (by omega) u4 ps.length (cellsF ps) (by rfl) ((HROW2.out.alloc _).drew)
                  ⟨wc.heap.size, 0, none⟩ 1 1 [.int .i64 K, .int .i64 V, .int .i64 N] (by rfl) (by rfl) (World.news_of_block (cs := #[.int .i64 K, .int .i64 V, .int .i64 N]) (t := 57) (fr := (0, 0)) (heap_alloc_new wc _)) (by simp [Value.oneCell'])
                  (by omega) H63.out (by omega) (by simp; omega) (wc.heap.size + 1) (by simp) ?_; intro gg cap w1 hown1 hgrow hat hlt1; obtain ⟨wa', wb', wf0', wf1', wz'⟩ := Box.grown (((Box.alloc ⟨wa, wb, wf0, wf1, wz⟩ _).drew)) hgrow (Ne.symm NW.out)))
            have HCE : Hid (p.cells = [.int .i64 K, .int .i64 V, .int .i64 N]) := Lib.hid (by rw [HKK.out, HVV.out, HNN.out]; rfl)
            have hbl1 : Below w.heap.size w w1 := (bq_drew (bq_alloc HBL.out _)).grown hgrow (by simp; omega) (fun j hj => by have := (HROW2.out.lt j hj).1; omega)
            have HBL1 := Lib.hid hbl1
            have HOWN := Lib.hid hown1
            clear hbl1 hown1 hgrow
            go_wp2
            go_roundw
            case rel => exact ⟨k + 1, by omega, by omega, by go_num, by rw [HSU.out, ← HS2'.out, ← HF2'.out]; exact (Box.set0 ⟨wa', wb', wf0', wf1', wz'⟩ _).set1 _, by rw [HSU.out, cellsF_snoc, HCE.out, List.length_append]; exact ownsRow_setCell_below (ownsRow_setCell_below HOWN.out (by simp) _) (by simp) _, bq_set (bq_set HBL1.out _ (by simp) _) _ (by simp) _⟩
            case measure => simp [intOf]; omega
          · have HSU : Hid (psAt zs (k + 1) = ps) := Lib.hid (by rw [HSUCC.out, if_neg (by simp [hok])])
            clear hok
            go_wp2_with fail
            go_roundw
            case rel => exact ⟨k + 1, by omega, by omega, by go_num, by rw [HSU.out, ← HXX.out, ← HSB.out, ← HFB.out]; exact HR0.out, by rw [HSU.out]; exact HROW2.out, HBL.out⟩
            case measure => simp [intOf]; omega
      · have j1 : decide ((k : Int) < 40) = false := by simp; omega
        have j2 : decide (k < zs.length) = true := by simp; omega
        obtain ⟨hsnd, hlen⟩ := wrAt_snd zs hf.out k
        have hok := psAt_ok zs hf.out k
        have hplen := psAt_len zs k
        obtain ⟨ps, hps⟩ : ∃ ps, ps = psAt zs k := ⟨_, rfl⟩
        rw [← hps] at hbx hrow hsnd hlen hok hplen
        obtain ⟨aa, cc, g, rfl, hcs⟩ := own_form hrow
        have HCS := Lib.hid hcs
        have HOK := Lib.hid hok
        have HLEN := Lib.hid hlen
        have hF40 : (wrF ps).1.length ≤ 200 := by omega
        have HBX := Lib.hid hbx
        obtain ⟨c0, c1, f0, f1, cz⟩ := hbx
        have HBEL := Lib.hid hbel
        have hsz := hbel.size
        have hps40 : ps.length ≤ 40 := by omega
        have HALL := Lib.hid (read_all ps hok)
        have HKB : Hid (∀ p ∈ ps, -9223372036854775808 ≤ p.k ∧ p.k ≤ 9223372036854775807) := Lib.hid (fun p hp => by
          rw [hps] at hp
          unfold psAt at hp
          exact hkk.out p (List.mem_of_mem_take (List.mem_filter.1 hp).1))
        clear hps hrow hsnd hlen hok hcs hbel ha hc hkk hf
        obtain ⟨s', hs'⟩ : ∃ s', s' = bs (wrF ps).1 := ⟨_, rfl⟩
        rw [← hs'] at c0 HBX HALL
        have hs40 : s'.size ≤ 200 := by rw [hs', bs_size]; exact hF40
        have HSS := Lib.hid hs'
        clear hs'
        go_wp2_with fail
        have OB := box_new wr (.string s') (.int .i64 0) 23
        have HW0 := bq_alloc (bq_refl wr) (.cells #[.string s', .int .i64 0] 23)
        generalize wr.alloc (.cells #[.string s', .int .i64 0] 23) = W0 at OB HW0 ⊢
        clear c0 c1 f0 f1 cz
        obtain ⟨w0, hw0⟩ : ∃ w0 : World, w0 = wr := ⟨_, rfl⟩
        rw [← hw0] at OB HW0 HCS HBX HBEL hsz ⊢
        clear hw0
        go_loopw [99] (fun i wx => RdRel w0 ps i wx) (fun i _ => ps.length - (intOf i).toNat)
        case atStart => exact ⟨0, by omega, rfl, by rw [← HSS.out]; exact OB, HW0⟩
        case round =>
          obtain ⟨k2, hk2, rfl, hbx2, hbel2⟩ := hrel
          by_cases hlt2 : k2 < ps.length
          · obtain ⟨rfl, hg0, hg1, hcc⟩ := HCS.out.resolve_left (by omega)
            have hcl := cellsF_get ps k2 hlt2
            have k0 : wr.cell? ⟨g, k2 * 3, none⟩ = some (.int .i64 ps[k2].k) := (hbel2.cell (p := ⟨g, k2 * 3, none⟩) hg0).trans ((hcc (k2 * 3) (by omega)).trans hcl.1)
            have k1 : wr.cell? ⟨g, k2 * 3 + 1, none⟩ = some (.int .i64 ps[k2].v) := (hbel2.cell (p := ⟨g, k2 * 3 + 1, none⟩) hg0).trans ((hcc (k2 * 3 + 1) (by omega)).trans hcl.2.1)
            have k2' : wr.cell? ⟨g, k2 * 3 + 2, none⟩ = some (.int .i64 ps[k2].n) := (hbel2.cell (p := ⟨g, k2 * 3 + 2, none⟩) hg0).trans ((hcc (k2 * 3 + 2) (by omega)).trans hcl.2.2)
            have R0 := Lib.hid (read0 ps HOK.out k2 hlt2)
            have R1 := Lib.hid (read1 ps HOK.out k2 hlt2)
            have R2 := Lib.hid (read2 ps HOK.out k2 hlt2)
            have R3 := Lib.hid (read3 ps HOK.out k2 hlt2)
            have hkb := HKB.out ps[k2] (List.getElem_mem _)
            obtain ⟨p, hp⟩ : ∃ p, p = ps[k2] := ⟨_, rfl⟩
            rw [← hp] at k0 k1 k2' R0 R1 R2 R3 hkb
            obtain ⟨A, hA⟩ : ∃ A : Nat, A = pos (wrF (ps.take k2)) := ⟨_, rfl⟩
            obtain ⟨A2, hA2⟩ : ∃ A2 : Nat, A2 = pos (wrF (ps.take (k2 + 1))) := ⟨_, rfl⟩
            rw [← hA] at hbx2 R0 R1 R2 R3
            rw [← hA2] at R0 R1 R2 R3
            rw [← HSS.out] at hbx2 R0 R1 R2 R3
            obtain ⟨q, hq⟩ : ∃ q, q = p.kind := ⟨_, rfl⟩
            have hkv := kind_val p hkb.1 hkb.2
            rw [← hq] at hkv R0 R1 R2 R3
            have hq4 : q < 4 := by rw [hq]; exact p.kind_lt
            obtain ⟨K, hK⟩ : ∃ K, K = p.k := ⟨_, rfl⟩
            obtain ⟨V, hV⟩ : ∃ V, V = p.v := ⟨_, rfl⟩
            obtain ⟨N, hN⟩ : ∃ N, N = p.n := ⟨_, rfl⟩
            rw [← hK] at k0 hkv
            rw [← hV] at k1 R0 R1 R2
            rw [← hN] at k2' R0 R1 R2
            have HA2 := Lib.hid hA2
            have HKV := Lib.hid hkv
            have hgs : g < wr.heap.size := by have := hbel2.size; omega
            have hsz2 := hbel2.size
            have HBX2 := Lib.hid hbx2
            have HBEL2 := Lib.hid hbel2
            have rlt : w0.heap.size < wr.heap.size := hbx2.2.2.2.2
            clear hcc hcl hp hA hA2 hq hkv hK hV hN hbel2 hkb hbx2
            have i1' : (0 : Int) ≤ (k2 : Int) := by omega
            have i2' : (k2 : Int) < (ps.length : Int) := by omega
            go_upto_region 21 with (fail)
            have b0 : (wr.alloc (.cells #[.int .i64 K, .int .i64 V, .int .i64 N] 57)).cell? ⟨wr.heap.size, 0, none⟩ = some (.int .i64 K) := by rw [World.cell?_alloc_new]; rfl
            have b1 : (wr.alloc (.cells #[.int .i64 K, .int .i64 V, .int .i64 N] 57)).cell? ⟨wr.heap.size, 1, none⟩ = some (.int .i64 V) := by rw [World.cell?_alloc_new]; rfl
            have b2 : (wr.alloc (.cells #[.int .i64 K, .int .i64 V, .int .i64 N] 57)).cell? ⟨wr.heap.size, 2, none⟩ = some (.int .i64 N) := by rw [World.cell?_alloc_new]; rfl
            have RB := HBX2.out.alloc (.cells #[.int .i64 K, .int .i64 V, .int .i64 N] 57)
            have HWr := Lib.hid (bq_alloc HBEL2.out (.cells #[.int .i64 K, .int .i64 V, .int .i64 N] 57))
            have ltW : wr.heap.size < (wr.alloc (.cells #[.int .i64 K, .int .i64 V, .int .i64 N] 57)).heap.size := by simp
            clear k0 k1 k2'
            generalize wr.alloc (.cells #[.int .i64 K, .int .i64 V, .int .i64 N] 57) = W at b0 b1 b2 RB HWr ltW ⊢
            have nef : (⟨w0.heap.size, 1, none⟩ : Addr) ≠ ⟨wr.heap.size, 1, none⟩ := by intro h; injection h with h1 h2; omega
            have nef2 : (⟨w0.heap.size, 0, none⟩ : Addr) ≠ ⟨wr.heap.size, 1, none⟩ := by intro h; injection h with h1 h2; omega
            have hs99 : s'.size ≤ 1099511627776 := by omega
            go_upto_block 5 with (fail)
            rw [HKV.out]
            go_cut [11, 12] (fun v e wx => SwRel2 w0 s' (A2 : Nat) V wr.heap.size v e wx)
            case first =>
              rcases (show q = 0 ∨ q = 1 ∨ q = 2 ∨ q = 3 by omega) with rfl | rfl | rfl | rfl
              · have hcon := fun w => plain_any s' (A : Nat) N w hs99
                rw [R0.out rfl] at hcon
                have HCON := Lib.hid hcon
                clear hcon
                obtain ⟨c0, c1, f0, f1, cz⟩ := RB
                go_wp2_with fail
                refine (HCON.out _).mono ?_
                rintro e w9 ⟨rfl, hb9⟩
                obtain ⟨q0, q1, r0, r1, qz⟩ := Box.keep ⟨c0, c1, f0, f1, cz⟩ hb9
                have fv := (hb9.cell (p := ⟨wr.heap.size, 1, none⟩) ltW).trans b1
                have hb8 := Lib.hid (bq_trans HWr.out hb9)
                clear hb9
                go_wp2_with fail
                go_meet
                case rel => exact ⟨rfl, rfl, (Box.set0 ⟨q0, q1, r0, r1, qz⟩ _).set1 _, by rw [World.cell?_setCell_other _ _ _ _ nef, World.cell?_setCell_other _ _ _ _ nef2]; exact fv, bq_set (bq_set hb8.out _ (by simp) _) _ (by simp) _⟩
              · have hcon := fun w => signed_any s' (A : Nat) N w hs99
                rw [R1.out rfl] at hcon
                have HCON := Lib.hid hcon
                clear hcon
                obtain ⟨c0, c1, f0, f1, cz⟩ := RB
                go_wp2_with fail
                refine (HCON.out _).mono ?_
                rintro e w9 ⟨rfl, hb9⟩
                obtain ⟨q0, q1, r0, r1, qz⟩ := Box.keep ⟨c0, c1, f0, f1, cz⟩ hb9
                have fv := (hb9.cell (p := ⟨wr.heap.size, 1, none⟩) ltW).trans b1
                have hb8 := Lib.hid (bq_trans HWr.out hb9)
                clear hb9
                go_wp2_with fail
                go_meet
                case rel => exact ⟨rfl, rfl, (Box.set0 ⟨q0, q1, r0, r1, qz⟩ _).set1 _, by rw [World.cell?_setCell_other _ _ _ _ nef, World.cell?_setCell_other _ _ _ _ nef2]; exact fv, bq_set (bq_set hb8.out _ (by simp) _) _ (by simp) _⟩
              · have hcon := fun w => little_any s' (A : Nat) N w hs99
                rw [R2.out rfl] at hcon
                have HCON := Lib.hid hcon
                clear hcon
                obtain ⟨c0, c1, f0, f1, cz⟩ := RB
                go_wp2_with fail
                refine (HCON.out _).mono ?_
                rintro e w9 ⟨rfl, hb9⟩
                obtain ⟨q0, q1, r0, r1, qz⟩ := Box.keep ⟨c0, c1, f0, f1, cz⟩ hb9
                have fv := (hb9.cell (p := ⟨wr.heap.size, 1, none⟩) ltW).trans b1
                have hb8 := Lib.hid (bq_trans HWr.out hb9)
                clear hb9
                go_wp2_with fail
                go_meet
                case rel => exact ⟨rfl, rfl, (Box.set0 ⟨q0, q1, r0, r1, qz⟩ _).set1 _, by rw [World.cell?_setCell_other _ _ _ _ nef, World.cell?_setCell_other _ _ _ _ nef2]; exact fv, bq_set (bq_set hb8.out _ (by simp) _) _ (by simp) _⟩
              · have hcon := fun w => align_any s' (A : Nat) w hs99
                rw [R3.out rfl] at hcon
                have HCON := Lib.hid hcon
                clear hcon
                obtain ⟨c0, c1, f0, f1, cz⟩ := RB
                go_wp2_with fail
                refine (HCON.out _).mono ?_
                rintro e w9 ⟨rfl, hb9⟩
                obtain ⟨q0, q1, r0, r1, qz⟩ := Box.keep ⟨c0, c1, f0, f1, cz⟩ hb9
                have fv := (hb9.cell (p := ⟨wr.heap.size, 1, none⟩) ltW).trans b1
                have hb8 := Lib.hid (bq_trans HWr.out hb9)
                clear hb9
                go_wp2_with fail
                go_meet
                case rel => exact ⟨rfl, rfl, (Box.set0 ⟨q0, q1, r0, r1, qz⟩ _).set1 _, by rw [World.cell?_setCell_other _ _ _ _ nef, World.cell?_setCell_other _ _ _ _ nef2]; exact fv, bq_set (bq_set hb8.out _ (by simp) _) _ (by simp) _⟩
            case rest =>
              obtain ⟨rfl, rfl, hbx3, hfv, hbel3⟩ := hcut
              have HBX3 := Lib.hid hbx3
              have HBEL3 := Lib.hid hbel3
              clear hbx3 hbel3 RB b0 b1 b2 R0 R1 R2 R3
              go_wp2_with fail
              go_roundw
              case rel => exact ⟨k2 + 1, by omega, by go_num, by rw [← HSS.out, ← HA2.out]; exact HBX3.out, HBEL3.out⟩
              case measure => simp [intOf]; omega
          · obtain rfl : k2 = ps.length := by omega
            rw [List.take_length, ← HSS.out] at hbx2
            have hB0 := HBX.out.keep hbel2
            have hA0 := HALL.out
            rw [show ((wrF ps).1.length : Int) = (s'.size : Int) by rw [HSS.out, bs_size]] at hA0
            obtain ⟨A, hA⟩ : ∃ A : Nat, A = pos (wrF ps) := ⟨_, rfl⟩
            rw [← hA] at hbx2 hA0
            have hcon := fun w => align_any s' (A : Nat) w (by omega)
            rw [hA0] at hcon
            have HIN : Hid (∀ w', Below wr.heap.size wr w' → Calls Try.prog 15 #[.agg #[.string s', .int .i64 (A : Int)]] w' fun e w'' => e = .returned (.agg #[.string s', .int .i64 (8 * (s'.size : Int))]) ∧ Below wr.heap.size wr w'') := Lib.hid (fun w' h => (hcon w').mono fun _ _ ⟨he, hb⟩ => ⟨he, bq_trans h hb⟩)
            have HBT := Lib.hid (bq_trans HBEL.out hbel2)
            obtain ⟨fw, hfw⟩ : ∃ fw : Int, fw = (((wrF ps).2 : Nat) : Int) := ⟨_, rfl⟩
            rw [← hfw] at hB0
            have HS : Hid (∀ w', Below wr.heap.size wr w' → w'.cell? ⟨w0.heap.size, 0, none⟩ = some (.string s') ∧ w'.cell? ⟨w0.heap.size, 1, none⟩ = some (.int .i64 (A : Int)) ∧ w'.cell? ⟨w.heap.size, 0, none⟩ = some (.string s')) := Lib.hid (fun w' h => by
              have k1 := hbx2.keep h
              have k2 := hB0.keep h
              exact ⟨k1.1, k1.2.1, k2.1⟩)
            have hd0 : Below wr.heap.size wr wr.drew := bq_drew (bq_refl _)
            have wr1 := i64_wrap (8 * (s'.size : Int)) (by omega) (by omega)
            have hfd : ∀ w : World, (Instr.field 23 (.agg #[.string s', .int .i64 (8 * (s'.size : Int))]) 1).run Try.prog w = .ok (.int .i64 (8 * (s'.size : Int))) w := fun _ => by kernel_rfl
            clear hA0 hA hcon hbx2 hB0 hbel2 hfw
            go_wp2_with fail
            go_region_held3 (fun w' => w'.cell? ⟨w0.heap.size, 0, none⟩ = some (.string s') ∧ w'.cell? ⟨w0.heap.size, 1, none⟩ = some (.int .i64 (A : Int)) ∧ w'.cell? ⟨w.heap.size, 0, none⟩ = some (.string s')) (first | exact HS.out _ (by assumption))
              (first | (go_at_call 15; refine (HIN.out _ (by assumption)).mono ?_; rintro e w9 ⟨rfl, hb9⟩) | (go_at_call 9; refine (awake_in wr _ (by assumption)).mono ?_; rintro e w9 ⟨rfl, hb9⟩))
            all_goals
              go_wp2
              go_ret
              exact ⟨rfl, bq_trans HBT.out (by assumption)⟩
    · have j1 : decide (k < zs.length) = false := by simp; omega
      obtain ⟨hsnd, hlen⟩ := wrAt_snd zs hf.out k
      have hok := psAt_ok zs hf.out k
      have hplen := psAt_len zs k
      obtain ⟨ps, hps⟩ : ∃ ps, ps = psAt zs k := ⟨_, rfl⟩
      rw [← hps] at hbx hrow hsnd hlen hok hplen
      obtain ⟨aa, cc, g, rfl, hcs⟩ := own_form hrow
      have HCS := Lib.hid hcs
      have HOK := Lib.hid hok
      have HLEN := Lib.hid hlen
      have hF40 : (wrF ps).1.length ≤ 200 := by omega
      have HBX := Lib.hid hbx
      obtain ⟨c0, c1, f0, f1, cz⟩ := hbx
      have HBEL := Lib.hid hbel
      have hsz := hbel.size
      have hps40 : ps.length ≤ 40 := by omega
      have HALL := Lib.hid (read_all ps hok)
      have HKB : Hid (∀ p ∈ ps, -9223372036854775808 ≤ p.k ∧ p.k ≤ 9223372036854775807) := Lib.hid (fun p hp => by
        rw [hps] at hp
        unfold psAt at hp
        exact hkk.out p (List.mem_of_mem_take (List.mem_filter.1 hp).1))
      clear hps hrow hsnd hlen hok hcs hbel ha hc hkk hf
      obtain ⟨s', hs'⟩ : ∃ s', s' = bs (wrF ps).1 := ⟨_, rfl⟩
      rw [← hs'] at c0 HBX HALL
      have hs40 : s'.size ≤ 200 := by rw [hs', bs_size]; exact hF40
      have HSS := Lib.hid hs'
      clear hs'
      go_wp2_with fail
      have OB := box_new wr (.string s') (.int .i64 0) 23
      have HW0 := bq_alloc (bq_refl wr) (.cells #[.string s', .int .i64 0] 23)
      generalize wr.alloc (.cells #[.string s', .int .i64 0] 23) = W0 at OB HW0 ⊢
      clear c0 c1 f0 f1 cz
      obtain ⟨w0, hw0⟩ : ∃ w0 : World, w0 = wr := ⟨_, rfl⟩
      rw [← hw0] at OB HW0 HCS HBX HBEL hsz ⊢
      clear hw0
      go_loopw [99] (fun i wx => RdRel w0 ps i wx) (fun i _ => ps.length - (intOf i).toNat)
      case atStart => exact ⟨0, by omega, rfl, by rw [← HSS.out]; exact OB, HW0⟩
      case round =>
        obtain ⟨k2, hk2, rfl, hbx2, hbel2⟩ := hrel
        by_cases hlt2 : k2 < ps.length
        · obtain ⟨rfl, hg0, hg1, hcc⟩ := HCS.out.resolve_left (by omega)
          have hcl := cellsF_get ps k2 hlt2
          have k0 : wr.cell? ⟨g, k2 * 3, none⟩ = some (.int .i64 ps[k2].k) := (hbel2.cell (p := ⟨g, k2 * 3, none⟩) hg0).trans ((hcc (k2 * 3) (by omega)).trans hcl.1)
          have k1 : wr.cell? ⟨g, k2 * 3 + 1, none⟩ = some (.int .i64 ps[k2].v) := (hbel2.cell (p := ⟨g, k2 * 3 + 1, none⟩) hg0).trans ((hcc (k2 * 3 + 1) (by omega)).trans hcl.2.1)
          have k2' : wr.cell? ⟨g, k2 * 3 + 2, none⟩ = some (.int .i64 ps[k2].n) := (hbel2.cell (p := ⟨g, k2 * 3 + 2, none⟩) hg0).trans ((hcc (k2 * 3 + 2) (by omega)).trans hcl.2.2)
          have R0 := Lib.hid (read0 ps HOK.out k2 hlt2)
          have R1 := Lib.hid (read1 ps HOK.out k2 hlt2)
          have R2 := Lib.hid (read2 ps HOK.out k2 hlt2)
          have R3 := Lib.hid (read3 ps HOK.out k2 hlt2)
          have hkb := HKB.out ps[k2] (List.getElem_mem _)
          obtain ⟨p, hp⟩ : ∃ p, p = ps[k2] := ⟨_, rfl⟩
          rw [← hp] at k0 k1 k2' R0 R1 R2 R3 hkb
          obtain ⟨A, hA⟩ : ∃ A : Nat, A = pos (wrF (ps.take k2)) := ⟨_, rfl⟩
          obtain ⟨A2, hA2⟩ : ∃ A2 : Nat, A2 = pos (wrF (ps.take (k2 + 1))) := ⟨_, rfl⟩
          rw [← hA] at hbx2 R0 R1 R2 R3
          rw [← hA2] at R0 R1 R2 R3
          rw [← HSS.out] at hbx2 R0 R1 R2 R3
          obtain ⟨q, hq⟩ : ∃ q, q = p.kind := ⟨_, rfl⟩
          have hkv := kind_val p hkb.1 hkb.2
          rw [← hq] at hkv R0 R1 R2 R3
          have hq4 : q < 4 := by rw [hq]; exact p.kind_lt
          obtain ⟨K, hK⟩ : ∃ K, K = p.k := ⟨_, rfl⟩
          obtain ⟨V, hV⟩ : ∃ V, V = p.v := ⟨_, rfl⟩
          obtain ⟨N, hN⟩ : ∃ N, N = p.n := ⟨_, rfl⟩
          rw [← hK] at k0 hkv
          rw [← hV] at k1 R0 R1 R2
          rw [← hN] at k2' R0 R1 R2
          have HA2 := Lib.hid hA2
          have HKV := Lib.hid hkv
          have hgs : g < wr.heap.size := by have := hbel2.size; omega
          have hsz2 := hbel2.size
          have HBX2 := Lib.hid hbx2
          have HBEL2 := Lib.hid hbel2
          have rlt : w0.heap.size < wr.heap.size := hbx2.2.2.2.2
          clear hcc hcl hp hA hA2 hq hkv hK hV hN hbel2 hkb hbx2
          have i1' : (0 : Int) ≤ (k2 : Int) := by omega
          have i2' : (k2 : Int) < (ps.length : Int) := by omega
          go_upto_region 21 with (fail)
          have b0 : (wr.alloc (.cells #[.int .i64 K, .int .i64 V, .int .i64 N] 57)).cell? ⟨wr.heap.size, 0, none⟩ = some (.int .i64 K) := by rw [World.cell?_alloc_new]; rfl
          have b1 : (wr.alloc (.cells #[.int .i64 K, .int .i64 V, .int .i64 N] 57)).cell? ⟨wr.heap.size, 1, none⟩ = some (.int .i64 V) := by rw [World.cell?_alloc_new]; rfl
          have b2 : (wr.alloc (.cells #[.int .i64 K, .int .i64 V, .int .i64 N] 57)).cell? ⟨wr.heap.size, 2, none⟩ = some (.int .i64 N) := by rw [World.cell?_alloc_new]; rfl
          have RB := HBX2.out.alloc (.cells #[.int .i64 K, .int .i64 V, .int .i64 N] 57)
          have HWr := Lib.hid (bq_alloc HBEL2.out (.cells #[.int .i64 K, .int .i64 V, .int .i64 N] 57))
          have ltW : wr.heap.size < (wr.alloc (.cells #[.int .i64 K, .int .i64 V, .int .i64 N] 57)).heap.size := by simp
          clear k0 k1 k2'
          generalize wr.alloc (.cells #[.int .i64 K, .int .i64 V, .int .i64 N] 57) = W at b0 b1 b2 RB HWr ltW ⊢
          have nef : (⟨w0.heap.size, 1, none⟩ : Addr) ≠ ⟨wr.heap.size, 1, none⟩ := by intro h; injection h with h1 h2; omega
          have nef2 : (⟨w0.heap.size, 0, none⟩ : Addr) ≠ ⟨wr.heap.size, 1, none⟩ := by intro h; injection h with h1 h2; omega
          have hs99 : s'.size ≤ 1099511627776 := by omega
          go_upto_block 5 with (fail)
          rw [HKV.out]
          go_cut [11, 12] (fun v e wx => SwRel2 w0 s' (A2 : Nat) V wr.heap.size v e wx)
          case first =>
            rcases (show q = 0 ∨ q = 1 ∨ q = 2 ∨ q = 3 by omega) with rfl | rfl | rfl | rfl
            · have hcon := fun w => plain_any s' (A : Nat) N w hs99
              rw [R0.out rfl] at hcon
              have HCON := Lib.hid hcon
              clear hcon
              obtain ⟨c0, c1, f0, f1, cz⟩ := RB
              go_wp2_with fail
              refine (HCON.out _).mono ?_
              rintro e w9 ⟨rfl, hb9⟩
              obtain ⟨q0, q1, r0, r1, qz⟩ := Box.keep ⟨c0, c1, f0, f1, cz⟩ hb9
              have fv := (hb9.cell (p := ⟨wr.heap.size, 1, none⟩) ltW).trans b1
              have hb8 := Lib.hid (bq_trans HWr.out hb9)
              clear hb9
              go_wp2_with fail
              go_meet
              case rel => exact ⟨rfl, rfl, (Box.set0 ⟨q0, q1, r0, r1, qz⟩ _).set1 _, by rw [World.cell?_setCell_other _ _ _ _ nef, World.cell?_setCell_other _ _ _ _ nef2]; exact fv, bq_set (bq_set hb8.out _ (by simp) _) _ (by simp) _⟩
            · have hcon := fun w => signed_any s' (A : Nat) N w hs99
              rw [R1.out rfl] at hcon
              have HCON := Lib.hid hcon
              clear hcon
              obtain ⟨c0, c1, f0, f1, cz⟩ := RB
              go_wp2_with fail
              refine (HCON.out _).mono ?_
              rintro e w9 ⟨rfl, hb9⟩
              obtain ⟨q0, q1, r0, r1, qz⟩ := Box.keep ⟨c0, c1, f0, f1, cz⟩ hb9
              have fv := (hb9.cell (p := ⟨wr.heap.size, 1, none⟩) ltW).trans b1
              have hb8 := Lib.hid (bq_trans HWr.out hb9)
              clear hb9
              go_wp2_with fail
              go_meet
              case rel => exact ⟨rfl, rfl, (Box.set0 ⟨q0, q1, r0, r1, qz⟩ _).set1 _, by rw [World.cell?_setCell_other _ _ _ _ nef, World.cell?_setCell_other _ _ _ _ nef2]; exact fv, bq_set (bq_set hb8.out _ (by simp) _) _ (by simp) _⟩
            · have hcon := fun w => little_any s' (A : Nat) N w hs99
              rw [R2.out rfl] at hcon
              have HCON := Lib.hid hcon
              clear hcon
              obtain ⟨c0, c1, f0, f1, cz⟩ := RB
              go_wp2_with fail
              refine (HCON.out _).mono ?_
              rintro e w9 ⟨rfl, hb9⟩
              obtain ⟨q0, q1, r0, r1, qz⟩ := Box.keep ⟨c0, c1, f0, f1, cz⟩ hb9
              have fv := (hb9.cell (p := ⟨wr.heap.size, 1, none⟩) ltW).trans b1
              have hb8 := Lib.hid (bq_trans HWr.out hb9)
              clear hb9
              go_wp2_with fail
              go_meet
              case rel => exact ⟨rfl, rfl, (Box.set0 ⟨q0, q1, r0, r1, qz⟩ _).set1 _, by rw [World.cell?_setCell_other _ _ _ _ nef, World.cell?_setCell_other _ _ _ _ nef2]; exact fv, bq_set (bq_set hb8.out _ (by simp) _) _ (by simp) _⟩
            · have hcon := fun w => align_any s' (A : Nat) w hs99
              rw [R3.out rfl] at hcon
              have HCON := Lib.hid hcon
              clear hcon
              obtain ⟨c0, c1, f0, f1, cz⟩ := RB
              go_wp2_with fail
              refine (HCON.out _).mono ?_
              rintro e w9 ⟨rfl, hb9⟩
              obtain ⟨q0, q1, r0, r1, qz⟩ := Box.keep ⟨c0, c1, f0, f1, cz⟩ hb9
              have fv := (hb9.cell (p := ⟨wr.heap.size, 1, none⟩) ltW).trans b1
              have hb8 := Lib.hid (bq_trans HWr.out hb9)
              clear hb9
              go_wp2_with fail
              go_meet
              case rel => exact ⟨rfl, rfl, (Box.set0 ⟨q0, q1, r0, r1, qz⟩ _).set1 _, by rw [World.cell?_setCell_other _ _ _ _ nef, World.cell?_setCell_other _ _ _ _ nef2]; exact fv, bq_set (bq_set hb8.out _ (by simp) _) _ (by simp) _⟩
          case rest =>
            obtain ⟨rfl, rfl, hbx3, hfv, hbel3⟩ := hcut
            have HBX3 := Lib.hid hbx3
            have HBEL3 := Lib.hid hbel3
            clear hbx3 hbel3 RB b0 b1 b2 R0 R1 R2 R3
            go_wp2_with fail
            go_roundw
            case rel => exact ⟨k2 + 1, by omega, by go_num, by rw [← HSS.out, ← HA2.out]; exact HBX3.out, HBEL3.out⟩
            case measure => simp [intOf]; omega
        · obtain rfl : k2 = ps.length := by omega
          rw [List.take_length, ← HSS.out] at hbx2
          have hB0 := HBX.out.keep hbel2
          have hA0 := HALL.out
          rw [show ((wrF ps).1.length : Int) = (s'.size : Int) by rw [HSS.out, bs_size]] at hA0
          obtain ⟨A, hA⟩ : ∃ A : Nat, A = pos (wrF ps) := ⟨_, rfl⟩
          rw [← hA] at hbx2 hA0
          have hcon := fun w => align_any s' (A : Nat) w (by omega)
          rw [hA0] at hcon
          have HIN : Hid (∀ w', Below wr.heap.size wr w' → Calls Try.prog 15 #[.agg #[.string s', .int .i64 (A : Int)]] w' fun e w'' => e = .returned (.agg #[.string s', .int .i64 (8 * (s'.size : Int))]) ∧ Below wr.heap.size wr w'') := Lib.hid (fun w' h => (hcon w').mono fun _ _ ⟨he, hb⟩ => ⟨he, bq_trans h hb⟩)
          have HBT := Lib.hid (bq_trans HBEL.out hbel2)
          obtain ⟨fw, hfw⟩ : ∃ fw : Int, fw = (((wrF ps).2 : Nat) : Int) := ⟨_, rfl⟩
          rw [← hfw] at hB0
          have HS : Hid (∀ w', Below wr.heap.size wr w' → w'.cell? ⟨w0.heap.size, 0, none⟩ = some (.string s') ∧ w'.cell? ⟨w0.heap.size, 1, none⟩ = some (.int .i64 (A : Int)) ∧ w'.cell? ⟨w.heap.size, 0, none⟩ = some (.string s')) := Lib.hid (fun w' h => by
            have k1 := hbx2.keep h
            have k2 := hB0.keep h
            exact ⟨k1.1, k1.2.1, k2.1⟩)
          have hd0 : Below wr.heap.size wr wr.drew := bq_drew (bq_refl _)
          have wr1 := i64_wrap (8 * (s'.size : Int)) (by omega) (by omega)
          have hfd : ∀ w : World, (Instr.field 23 (.agg #[.string s', .int .i64 (8 * (s'.size : Int))]) 1).run Try.prog w = .ok (.int .i64 (8 * (s'.size : Int))) w := fun _ => by kernel_rfl
          clear hA0 hA hcon hbx2 hB0 hbel2 hfw
          go_wp2_with fail
          go_region_held3 (fun w' => w'.cell? ⟨w0.heap.size, 0, none⟩ = some (.string s') ∧ w'.cell? ⟨w0.heap.size, 1, none⟩ = some (.int .i64 (A : Int)) ∧ w'.cell? ⟨w.heap.size, 0, none⟩ = some (.string s')) (first | exact HS.out _ (by assumption))
            (first | (go_at_call 15; refine (HIN.out _ (by assumption)).mono ?_; rintro e w9 ⟨rfl, hb9⟩) | (go_at_call 9; refine (awake_in wr _ (by assumption)).mono ?_; rintro e w9 ⟨rfl, hb9⟩))
          all_goals
            go_wp2
            go_ret
            exact ⟨rfl, bq_trans HBT.out (by assumption)⟩
end Go.Proofs.Ytoofjcpapidgdaa
