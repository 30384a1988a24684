import Derived.Test.YtgflnkkhcapkmaaHs
/- Layer 4: the symbol whose code stands at a bit. -/
namespace Go.Proofs.Ytgflnkkhcapkmaa
open Go.RowKit
set_option linter.unusedVariables false

def nxV (at_ : Nat) (r : Nat × Nat × Nat) : Value := .tuple #[.int .i64 (r.1 : Int), .int .i64 (if r.2.2 = 0 then (at_ : Int) + (r.2.1 : Int) else 0), .int .i64 (r.2.2 : Int)]
/-- what Next answers -/
def nxR (zs : List Int) (s : ByteArray) (at_ : Int) : Value := if at_ < 0 then .tuple #[.int .i64 0, .int .i64 0, .int .i64 1] else nxV at_.toNat (Hf.nx zs fun m => bt s (at_.toNat + m))
theorem nxV_4 (p : Nat) : nxV p (0, 0, 4) = .tuple #[.int .i64 0, .int .i64 0, .int .i64 4] := rfl
theorem nxV_2 (p : Nat) : nxV p (0, 0, 2) = .tuple #[.int .i64 0, .int .i64 0, .int .i64 2] := rfl
theorem nxV_0 (p s n : Nat) : nxV p (s, n, 0) = .tuple #[.int .i64 (s : Int), .int .i64 ((p : Int) + n), .int .i64 0] := rfl
theorem next_arg (v : Array Value) (s : ByteArray) (at_ : Int) (w : World) (h : at_ < 0) :
    Calls Try.prog 13 #[.agg v, .string s, .int .i64 at_] w fun e w' => e = .returned (.tuple #[.int .i64 0, .int .i64 0, .int .i64 1]) ∧ Below w.heap.size w w' := by
  go_enter Try.func13, Try.ntmps13
  go_wp2_with (refine wl_box 27 _ _ rfl rfl rfl ?_; intro W1 b1 B1 l1 k1)
  go_ret3
  exact ⟨rfl, k1⟩
def NxRel (zs : List Int) (s : ByteArray) (p : Nat) (R : Nat × Nat × Nat) (a c f t i : Value) : Prop :=
  ∃ k x y z : Nat, k ≤ 15 ∧ i = .int .i64 k ∧ a = .int .i64 ((p : Int) + k) ∧ c = .int .i64 (x : Int) ∧ f = .int .i64 (y : Int) ∧ t = .int .i64 (z : Int) ∧
    x < B.P2 k ∧ y = Hf.fs zs k + Hf.cn zs k ∧ z = Hf.st zs (k + 1) ∧ y ≤ x ∧ Hf.dec zs (fun m => bt s (p + m)) (15 - k) k x = R ∧ (0 < k → p + k ≤ 8 * s.size)
theorem bt_some (s : ByteArray) (p : Nat) (h : p < 8 * s.size) : bt s p = some (btv s p) := by unfold bt; rw [if_pos h]
theorem bt_none (s : ByteArray) (p : Nat) (h : ¬ p < 8 * s.size) : bt s p = none := by unfold bt; rw [if_neg h]
theorem P2_15 (n : Nat) (h : n ≤ 15) : B.P2 n ≤ 32768 := B.P2_le (b := 15) h
set_option maxHeartbeats 4000000 in
theorem next_some (zs : List Int) (s : ByteArray) (p b : Nat) (w : World) (hs : s.size ≤ 1099511627776) (hp : p ≤ 9223372036854775807) (hl : zs.length ≤ 320)
    (hb : Blk w b (intA (Hf.sy zs zs.length) (Hf.st zs 16)) 3) :
    Calls Try.prog 13 #[.agg (tabA (Hf.cn zs) (some ⟨b, 0, none⟩) (Hf.st zs 16)), .string s, .int .i64 p] w fun e w' => e = .returned (nxV p (Hf.nx zs fun m => bt s (p + m))) ∧ Below w.heap.size w w' := by
  obtain ⟨R, hR⟩ : ∃ R, Hf.nx zs (fun m => bt s (p + m)) = R := ⟨_, rfl⟩
  rw [hR]
  have HR := Lib.hid hR
  clear hR
  have hN := Hf.st_len zs 16
  obtain ⟨N, hNe⟩ : ∃ N, N = Hf.st zs 16 := ⟨_, rfl⟩
  rw [← hNe] at hb hN ⊢
  have HN := Lib.hid hNe
  clear hNe
  go_enter Try.func13, Try.ntmps13
  go_wp2_with (refine wl_box 27 _ _ rfl rfl rfl ?_; intro W1 b1 B1 l1 k1)
  have HE := Lib.hid k1
  have C0 := hb.keep k1
  have hsl := (B1.cell 16).trans (tabA_sl _ _ _)
  clear l1 k1 hb
  go_loop [2, 9, 10, 11, 21] (fun a c f t i => NxRel zs s p R a c f t i) (fun _ _ _ _ i => 15 - (intOf i).toNat)
  case atStart => exact ⟨0, 0, 0, 0, by omega, rfl, by simp, rfl, rfl, rfl, by rw [B.P2_zero]; omega, rfl, rfl, by omega, HR.out, fun h => by omega⟩
  case round =>
    obtain ⟨k, x, y, z, hk, rfl, rfl, rfl, rfl, rfl, hx, hy, hz, hyx, hdec, hin⟩ := hrel
    clear HR
    have hx2 := P2_15 k hk
    have hzl := Hf.st_len zs (k + 1)
    rw [← hz] at hzl
    have HX := Lib.hid hx
    have HY := Lib.hid hy
    have HZ := Lib.hid hz
    have HD := Lib.hid hdec
    have hxb : x < 32768 := by omega
    clear hx hy hz hdec hx2
    by_cases hlt : k < 15
    · have hcell := (B1.cell (1 + k)).trans (tabA_at _ _ _ (1 + k) (by omega))
      have HCN : Hid (Hf.cn zs (1 + k) = Hf.cn zs (k + 1)) := Lib.hid (by rw [Nat.add_comm])
      have hcl := Hf.cn_len zs (1 + k)
      obtain ⟨q, hq⟩ : ∃ q, q = Hf.cn zs (1 + k) := ⟨_, rfl⟩
      rw [← hq] at hcell hcl
      rw [← hq] at HCN
      clear hq
      by_cases c1 : z = N
      · have HE4 : Hid (R = (0, 0, 4)) := Lib.hid (by rw [← HD.out]; exact Hf.dec_none zs _ _ k x (by rw [← HZ.out, ← HN.out]; omega))
        subst c1
        go_wp2
        go_ret3
        exact ⟨by rw [HE4.out, nxV_4]; rfl, HE.out⟩
      · have t1 : ((z : Int) == (N : Int)) = false := by rw [beq_eq_false_iff_ne]; omega
        have hzN : z < N := by
          have := Hf.st_mono zs (a := k + 1) (b := 16) (by omega)
          rw [← HZ.out, ← HN.out] at this
          omega
        have HG : Hid (¬ Hf.st zs 16 ≤ Hf.st zs (k + 1)) := Lib.hid (by rw [← HZ.out, ← HN.out]; omega)
        clear c1
        by_cases c2 : p + k < 8 * s.size
        · have HB := Lib.hid (bit_yes s (p + k) W1 hs c2)
          have ej : ((p + k : Nat) : Int) = (p : Int) + (k : Int) := by omega
          rw [ej] at HB
          have hb2 := btv_lt s (p + k)
          have HS := Lib.hid (Hf.dec_step zs (fun m => bt s (p + m)) k x (btv s (p + k)) hlt HG.out (bt_some s (p + k) c2))
          rw [HD.out] at HS
          generalize btv s (p + k) = u at *
          clear ej hin
          go_upto_region 13 with (go_at_call 17; refine HB.out.mono ?_; rintro e w' ⟨rfl, rfl⟩)
          have e1 : 2 * (x : Int) + (u : Int) = ((2 * x + u : Nat) : Int) := by omega
          have e2 : 2 * (y : Int) = ((2 * y : Nat) : Int) := by omega
          rw [e1, e2]
          have HP : Hid (2 * x + u < B.P2 (k + 1)) := Lib.hid (by have := HX.out; rw [B.P2_succ]; omega)
          have HF : Hid (2 * y = Hf.fs zs (k + 1)) := Lib.hid (by rw [HY.out, Hf.fs_succ])
          have hfx : 2 * y ≤ 2 * x + u := by omega
          have hxb2 : 2 * x + u < 65537 := by omega
          generalize 2 * x + u = c at *
          generalize 2 * y = f at *
          clear e1 e2 HB HD HX HY hxb hyx hb2
          by_cases c3 : c < f + q
          · have hhit := Hf.decF_hit zs (fun m => bt s (p + m)) (k + 1) c (by rw [← HF.out, ← HCN.out]; exact c3)
            rw [← HS.out, ← HF.out] at hhit
            have hidx : (z : Int) + (c : Int) - (f : Int) = ((z + (c - f) : Nat) : Int) := by omega
            have hrange : z + (c - f) < N := by
              have := Hf.st_cn_le zs (k + 1) 16 (by omega)
              rw [← HZ.out, ← HN.out, ← HCN.out] at this
              omega
            have hsc := (C0.cell (z + (c - f))).trans (intA_at _ _ _ hrange)
            have hsy : Hf.sy zs zs.length (z + (c - f)) = Hf.sym zs (k + 1) (c - f) := by
              rw [HZ.out]; exact Hf.sy_sym zs (k + 1) (c - f) (by rw [← HCN.out]; omega)
            rw [hsy] at hsc
            have HH := Lib.hid hhit
            clear hhit hsy
            generalize Hf.sym zs (k + 1) (c - f) = sm at *
            generalize z + (c - f) = idx at *
            go_wp2
            go_ret3
            refine ⟨?_, HE.out⟩
            rw [HH.out, nxV_0]
            have e5 : (p : Int) + (k : Int) + 1 = (p : Int) + ((k + 1 : Nat) : Int) := by omega
            rw [← e5]
            rfl
          · have hmiss := Hf.decF_miss zs (fun m => bt s (p + m)) (k + 1) c (by rw [← HF.out, ← HCN.out]; exact c3)
            rw [← HS.out] at hmiss
            have HM := Lib.hid hmiss
            clear hmiss
            go_wp2
            go_round
            case rel => exact ⟨k + 1, c, f + q, z + q, by omega, by go_num, by go_num, rfl, by go_num, by go_num, HP.out, by rw [HF.out, HCN.out], by rw [HZ.out, HCN.out]; rfl, by omega, HM.out.symm, fun _ => by omega⟩
            case measure => simp [intOf]; omega
        · have HE2 : Hid (R = (0, 0, 2)) := Lib.hid (by rw [← HD.out]; exact Hf.dec_short zs _ k x hlt HG.out (bt_none s (p + k) c2))
          by_cases k0 : k = 0
          · subst k0
            have HB := Lib.hid (bit_no s p W1 hs (Or.inr (by omega)))
            clear hin
            go_wp2_with (go_at_call 17; refine HB.out.mono ?_; rintro e w' ⟨rfl, rfl⟩)
            go_ret3
            exact ⟨by rw [HE2.out, nxV_2]; rfl, HE.out⟩
          · have h8 := hin (by omega)
            have HB := Lib.hid (bit_no s ((p : Int) + (k : Int)) W1 hs (Or.inr (by omega)))
            clear hin
            go_wp2_with (go_at_call 17; refine HB.out.mono ?_; rintro e w' ⟨rfl, rfl⟩)
            go_ret3
            exact ⟨by rw [HE2.out, nxV_2]; rfl, HE.out⟩
    · obtain rfl : k = 15 := by omega
      have HE4 : Hid (R = (0, 0, 4)) := Lib.hid (by rw [← HD.out]; exact Hf.dec_end zs _ _ _)
      clear hin
      go_wp2
      go_ret3
      exact ⟨by rw [HE4.out, nxV_4]; rfl, HE.out⟩
theorem next_any (zs : List Int) (s : ByteArray) (at_ : Int) (b : Nat) (w : World) (hs : s.size ≤ 1099511627776) (hp : at_ ≤ 9223372036854775807) (hl : zs.length ≤ 320)
    (hb : Blk w b (intA (Hf.sy zs zs.length) (Hf.st zs 16)) 3) :
    Calls Try.prog 13 #[.agg (tabA (Hf.cn zs) (some ⟨b, 0, none⟩) (Hf.st zs 16)), .string s, .int .i64 at_] w fun e w' => e = .returned (nxR zs s at_) ∧ Below w.heap.size w w' := by
  unfold nxR
  by_cases c : at_ < 0
  · rw [if_pos c]; exact next_arg _ s at_ w c
  · rw [if_neg c]
    obtain ⟨p, rfl⟩ : ∃ p : Nat, at_ = (p : Int) := ⟨at_.toNat, by omega⟩
    exact next_some zs s p b w hs (by omega) hl hb
end Go.Proofs.Ytgflnkkhcapkmaa
