import Derived.Test.YtgflnkkhcapkmaaHv
/- Layer 4: the document's symbol at a bit. -/
namespace Go.Proofs.Ytgflnkkhcapkmaa
open Go.RowKit
set_option linter.unusedVariables false

/-- of the first j symbols: does a longer code begin so; none is just so -/
def Bg (zs : List Int) (n c j : Nat) (t : Bool) : Prop :=
  (t = true ↔ ∃ k, ∃ h : k < zs.length, k < j ∧ (n : Int) < zs[k] ∧ Hf.cd zs k / B.P2 (zs[k].toNat - n) = c) ∧ ∀ k (h : k < zs.length), k < j → ¬ (zs[k] = (n : Int) ∧ 0 < n ∧ Hf.cd zs k = c)
theorem bg_start (zs : List Int) (n c : Nat) : Bg zs n c 0 false :=
  ⟨⟨fun h => Bool.noConfusion h, fun ⟨k, h, hk, _⟩ => by omega⟩, fun k h hk => by omega⟩
theorem bg_same {zs : List Int} {n c j : Nat} {t : Bool} (h : Bg zs n c j t) (hj : j < zs.length) (h1 : ¬ ((n : Int) < zs[j] ∧ Hf.cd zs j / B.P2 (zs[j].toNat - n) = c)) (h2 : ¬ (zs[j] = (n : Int) ∧ 0 < n ∧ Hf.cd zs j = c)) : Bg zs n c (j + 1) t := by
  refine ⟨h.1.trans ⟨?_, ?_⟩, ?_⟩
  · rintro ⟨k, hk, a, b⟩; exact ⟨k, hk, by omega, b⟩
  · rintro ⟨k, hk, a, b⟩
    by_cases e : k = j
    · subst e; exact absurd b h1
    · exact ⟨k, hk, by omega, b⟩
  · intro k hk a
    by_cases e : k = j
    · subst e; exact h2
    · exact h.2 k hk (by omega)
theorem bg_more {zs : List Int} {n c j : Nat} {t : Bool} (h : Bg zs n c j t) (hj : j < zs.length) (h1 : (n : Int) < zs[j] ∧ Hf.cd zs j / B.P2 (zs[j].toNat - n) = c) : Bg zs n c (j + 1) true := by
  refine ⟨⟨fun _ => ⟨j, hj, by omega, h1⟩, fun _ => rfl⟩, ?_⟩
  intro k hk a
  by_cases e : k = j
  · subst e; intro b; omega
  · exact h.2 k hk (by omega)
theorem bg_skip {zs : List Int} {n c j m : Nat} {t : Bool} (h : Bg zs n c j t) (hj : j < zs.length) (hm : zs[j] = (m : Int)) (h1 : m < n ∨ m = 0) : Bg zs n c (j + 1) t :=
  bg_same h hj (by rw [hm]; omega) (by rw [hm]; omega)
theorem bg_other {zs : List Int} {n c j m : Nat} {t : Bool} (h : Bg zs n c j t) (hj : j < zs.length) (hm : zs[j] = (m : Int)) (h1 : Hf.cd zs j / B.P2 (m - n) ≠ c) : Bg zs n c (j + 1) t := by
  refine bg_same h hj (fun a => h1 ?_) (fun a => h1 ?_)
  · have := a.2; rwa [hm, Int.toNat_natCast] at this
  · have e : m = n := by have := a.1; omega
    rw [e, Nat.sub_self, B.P2_zero, Nat.div_one]; exact a.2.2
theorem bg_more2 {zs : List Int} {n c j m : Nat} {t : Bool} (h : Bg zs n c j t) (hj : j < zs.length) (hm : zs[j] = (m : Int)) (h0 : n < m) (h1 : Hf.cd zs j / B.P2 (m - n) = c) : Bg zs n c (j + 1) true :=
  bg_more h hj ⟨by omega, by rw [hm, Int.toNat_natCast]; exact h1⟩
theorem bg_end {zs : List Int} {n c : Nat} {t : Bool} (h : Bg zs n c zs.length t) (hR : Hf.inR zs) (hT : Hf.tabB zs = true) (hn : n ≤ 15) (hc : c < B.P2 n) (hl : Hf.fs zs n ≤ c) : ¬ c < Hf.fs zs n + Hf.cn zs n ∧ (t = true ↔ Hf.st zs (n + 1) < Hf.st zs 16) := by
  have h1 : ¬ c < Hf.fs zs n + Hf.cn zs n := by
    intro a
    obtain ⟨k, hk, z1, z2, z3⟩ := Hf.hit_of zs n c hl a
    exact h.2 k hk hk ⟨z1, z2, z3⟩
  refine ⟨h1, ?_⟩
  rw [← Hf.more_iff zs hR hT n c hn hc (by omega)]
  exact h.1.trans ⟨fun ⟨k, hk, _, b⟩ => ⟨k, hk, b⟩, fun ⟨k, hk, b⟩ => ⟨k, hk, hk, b⟩⟩
def BgRel (zs : List Int) (n c : Nat) (g i : Value) : Prop := ∃ j : Nat, ∃ t : Bool, j ≤ zs.length ∧ i = .int .i64 j ∧ g = .bool t ∧ Bg zs n c j t
def RxRel (zs : List Int) (s : ByteArray) (p : Nat) (R : Nat × Nat × Nat) (c i : Value) : Prop :=
  ∃ n x : Nat, n ≤ 15 ∧ i = .int .i64 n ∧ c = .int .i64 (x : Int) ∧ x < B.P2 n ∧ Hf.fs zs n ≤ x ∧ Hf.decF zs (fun m => bt s (p + m)) n x = R ∧ (0 < n → p + n ≤ 8 * s.size)
def CkRel (X n m : Nat) (s j : Value) : Prop := ∃ i y : Nat, n ≤ i ∧ i ≤ m ∧ j = .int .i64 i ∧ s = .int .i64 (y : Int) ∧ y = X / B.P2 (i - n) ∧ y ≤ 20000000
theorem rnext_arg (a : Option Addr) (l c : Nat) (s : ByteArray) (at_ : Int) (w : World) (h : at_ < 0) :
    Calls Try.prog 14 #[.slice a l c, .string s, .int .i64 at_] w fun e w' => e = .returned (.tuple #[.int .i64 0, .int .i64 0, .int .i64 1]) ∧ Below w.heap.size w w' := by
  go_enter Try.func14, Try.ntmps14
  go_wp2
  go_ret3
  exact ⟨rfl, bq_refl w⟩
set_option maxHeartbeats 4000000 in
set_option maxRecDepth 100000 in
theorem rnext_some (zs : List Int) (a : Option Addr) (b o c : Nat) (s : ByteArray) (p : Nat) (w : World) (hs : s.size ≤ 1099511627776) (hp : p ≤ 9223372036854775807) (ha : Hid (Ints w zs a b o)) (he : Hid (errN zs = 0)) :
    Calls Try.prog 14 #[.slice a zs.length c, .string s, .int .i64 p] w fun e w' => e = .returned (nxV p (Hf.nx zs fun m => bt s (p + m))) ∧ Below w.heap.size w w' := by
  obtain ⟨hl, hR, hT⟩ := errN_ok he.out
  have HIN := Lib.hid hR
  have HT := Lib.hid hT
  have HRC := Lib.hid (rcodes_any zs a b o c w hl HIN ha)
  obtain ⟨R, hRe⟩ : ∃ R, Hf.nx zs (fun m => bt s (p + m)) = R := ⟨_, rfl⟩
  rw [hRe]
  rw [Hf.nx_eq] at hRe
  have HR := Lib.hid hRe
  clear hRe hR hT he
  go_enter Try.func14, Try.ntmps14
  go_wp2_with (go_at_call 12; refine HRC.out.mono ?_; rintro e w1 ⟨b9, l9, hb9, rfl, hbel⟩)
  have HB := Lib.hid hbel
  have HA := Lib.hid (ha.out.keep hbel)
  clear hbel l9 HRC ha
  go_loop [10, 11] (fun c i => RxRel zs s p R c i) (fun _ i => 16 - (intOf i).toNat)
  case atStart => exact ⟨0, 0, by omega, rfl, rfl, by rw [B.P2_zero]; omega, Nat.le_refl _, HR.out, fun h => by omega⟩
  case round =>
    obtain ⟨n, x, hn, rfl, rfl, hx, hfx, hdec, hin⟩ := hrel
    have hx2 := P2_15 n hn
    have hxb : x < 32768 := by omega
    have HX := Lib.hid hx
    have HF := Lib.hid hfx
    have HD := Lib.hid hdec
    clear hx hfx hdec hx2 HR
    go_wp2_with fail
    go_loop [12, 13] (fun g i => BgRel zs n x g i) (fun _ i => zs.length - (intOf i).toNat)
    case atStart => exact ⟨0, false, by omega, rfl, rfl, bg_start zs n x⟩
    case round =>
      obtain ⟨i, t, hi, rfl, rfl, hbg⟩ := hrel
      have HG := Lib.hid hbg
      clear hbg
      by_cases hil : i < zs.length
      · obtain ⟨rfl, hz0, hz1, hcell⟩ := HA.out.at (bq_refl w1) i hil
        have hri := HIN.out i hil
        obtain ⟨z, hz⟩ : ∃ z, z = zs[i] := ⟨_, rfl⟩
        rw [← hz] at hz0 hz1 hcell hri
        have HZ := Lib.hid hz
        clear hz
        obtain ⟨m, rfl⟩ : ∃ m : Nat, z = (m : Int) := ⟨z.toNat, by omega⟩
        have hm : m ≤ 15 := by omega
        clear hz0 hz1 hri
        by_cases c1 : m < n
        · have d1 : decide (m < n) = true := by simp; omega
          have HG2 := Lib.hid (bg_skip HG.out hil HZ.out.symm (Or.inl c1))
          go_wp2
          go_round
          case rel => exact ⟨i + 1, t, by omega, by go_num, rfl, HG2.out⟩
          case measure => simp [intOf]; omega
        · have d1 : decide (m < n) = false := by simp; omega
          by_cases c2 : m = 0
          · have HG2 := Lib.hid (bg_skip HG.out hil HZ.out.symm (Or.inr c2))
            subst c2
            go_wp2
            go_round
            case rel => exact ⟨i + 1, t, by omega, by go_num, rfl, HG2.out⟩
            case measure => simp [intOf]; omega
          · have d2 : ((m : Int) == 0) = false := by rw [beq_eq_false_iff_ne]; omega
            have hc9 := (hb9.cell i).trans (intA_at _ _ i hil)
            have bc : Hf.cd zs i ≤ 20000000 := by
              rcases cd_bd zs hl i with h | h
              · exact h
              · rw [Hf.getD_eq zs i hil, ← HZ.out, Int.toNat_natCast] at h
                omega
            obtain ⟨q, hq⟩ : ∃ q, q = Hf.cd zs i := ⟨_, rfl⟩
            rw [← hq] at hc9 bc
            have HQ := Lib.hid hq
            clear hq c2
            go_wp2_with fail
            go_loop [14, 15] (fun s j => CkRel q n m s j) (fun _ j => m - (intOf j).toNat)
            case atStart => exact ⟨n, q, by omega, by omega, rfl, rfl, by rw [Nat.sub_self, B.P2_zero, Nat.div_one], bc⟩
            case round =>
              obtain ⟨r, y, hr, hr2, rfl, rfl, hy, hy2⟩ := hrel
              have HY := Lib.hid hy
              clear hy
              by_cases hrl : r < m
              · go_wp2
                go_round
                case rel => exact ⟨r + 1, y / 2, by omega, by omega, by go_num, by go_num, by rw [HY.out]; exact hs_step q r n hr, by omega⟩
                case measure => simp [intOf]; omega
              · obtain rfl : r = m := by omega
                by_cases c3 : y = x
                · have d3 : ((y : Int) != (x : Int)) = false := by rw [c3]; simp
                  by_cases c4 : r = n
                  · have d4 : ((r : Int) == (n : Int)) = true := by rw [c4]; simp
                    have hn0 : 0 < n := by
                      have : ((r : Int) == 0) = false := d2
                      rw [beq_eq_false_iff_ne] at this
                      omega
                    have h8 := hin hn0
                    have hcd : Hf.cd zs i = x := by rw [← HQ.out, ← c3, HY.out, c4, Nat.sub_self, B.P2_zero, Nat.div_one]
                    obtain ⟨g1, g2⟩ := Hf.hit_sym zs n x i hil hn0 (by rw [← HZ.out, c4]) hcd
                    have hRR : R = (i, n, 0) := by rw [← HD.out, Hf.decF_hit zs _ n x g1, g2]
                    have HRR := Lib.hid hRR
                    clear hRR g1 g2 hcd hin c4 c3
                    go_wp2
                    go_ret3
                    exact ⟨by rw [HRR.out, nxV_0]; rfl, HB.out⟩
                  · have d4 : ((r : Int) == (n : Int)) = false := by rw [beq_eq_false_iff_ne]; omega
                    have HG2 := Lib.hid (bg_more2 HG.out hil HZ.out.symm (by omega) (by rw [← HQ.out, ← HY.out]; exact c3))
                    clear c3 c4 hin
                    go_wp2
                    go_round
                    case rel => exact ⟨i + 1, true, by omega, by go_num, rfl, HG2.out⟩
                    case measure => simp [intOf]; omega
                · have d3 : ((y : Int) != (x : Int)) = true := by rw [bne_iff_ne]; omega
                  have HG2 := Lib.hid (bg_other HG.out hil HZ.out.symm (by rw [← HQ.out, ← HY.out]; exact c3))
                  clear c3 hin
                  go_wp2
                  go_round
                  case rel => exact ⟨i + 1, t, by omega, by go_num, rfl, HG2.out⟩
                  case measure => simp [intOf]; omega
      · obtain rfl : i = zs.length := by omega
        obtain ⟨hmiss, hiff⟩ := bg_end HG.out HIN.out HT.out hn HX.out HF.out
        have hd2 := Hf.decF_miss zs (fun m => bt s (p + m)) n x hmiss
        rw [HD.out] at hd2
        have HD2 := Lib.hid hd2
        have HMI := Lib.hid hmiss
        clear hd2 HG hmiss
        cases t with
        | false =>
          have hst : ¬ Hf.st zs (n + 1) < Hf.st zs 16 := fun h => by have := hiff.2 h; cases this
          have hRR : R = (0, 0, 4) := by rw [HD2.out]; exact Hf.dec_none zs _ _ n x (by omega)
          have HRR := Lib.hid hRR
          clear hRR hst hiff hin
          go_wp2
          go_ret3
          exact ⟨by rw [HRR.out, nxV_4]; rfl, HB.out⟩
        | true =>
          have hst := hiff.1 rfl
          have hn15 : n < 15 := by
            by_cases e : n = 15
            · subst e; exact absurd hst (Nat.lt_irrefl _)
            · omega
          have HS := Lib.hid hst
          clear hst hiff
          by_cases c2 : p + n < 8 * s.size
          · have HBT := Lib.hid (rbit_yes s (p + n) w1 hs c2)
            have ej : ((p + n : Nat) : Int) = (p : Int) + (n : Int) := by omega
            rw [ej] at HBT
            have hb2 := btv_lt s (p + n)
            have hstep := Hf.dec_step zs (fun m => bt s (p + m)) n x (btv s (p + n)) hn15 (by have := HS.out; omega) (bt_some s (p + n) c2)
            rw [← HD2.out] at hstep
            have HSTEP := Lib.hid hstep
            clear hstep ej hin
            generalize btv s (p + n) = u at *
            go_wp2_with (go_at_call 18; refine HBT.out.mono ?_; rintro e w' ⟨rfl, rfl⟩)
            go_round
            case rel => exact ⟨n + 1, 2 * x + u, by omega, by go_num, by go_num, by rw [B.P2_succ]; have := HX.out; omega, by rw [Hf.fs_succ]; have := HMI.out; omega, HSTEP.out.symm, fun _ => by omega⟩
            case measure => simp [intOf]; omega
          · have hRR : R = (0, 0, 2) := by rw [HD2.out]; exact Hf.dec_short zs _ n x hn15 (by have := HS.out; omega) (bt_none s (p + n) c2)
            have HRR := Lib.hid hRR
            clear hRR
            by_cases n0 : n = 0
            · subst n0
              have HBT := Lib.hid (rbit_no s p w1 hs (Or.inr (by omega)) (by omega))
              clear hin
              go_wp2_with (go_at_call 18; refine HBT.out.mono ?_; rintro e w' ⟨rfl, rfl⟩)
              go_ret3
              exact ⟨by rw [HRR.out, nxV_2]; rfl, HB.out⟩
            · have h8 := hin (by omega)
              have HBT := Lib.hid (rbit_no s ((p : Int) + (n : Int)) w1 hs (Or.inr (by omega)) (by omega))
              clear hin
              go_wp2_with (go_at_call 18; refine HBT.out.mono ?_; rintro e w' ⟨rfl, rfl⟩)
              go_ret3
              exact ⟨by rw [HRR.out, nxV_2]; rfl, HB.out⟩
theorem rnext_any (zs : List Int) (a : Option Addr) (b o c : Nat) (s : ByteArray) (at_ : Int) (w : World) (hs : s.size ≤ 1099511627776) (hp : at_ ≤ 9223372036854775807) (ha : Hid (Ints w zs a b o)) (he : Hid (errN zs = 0)) :
    Calls Try.prog 14 #[.slice a zs.length c, .string s, .int .i64 at_] w fun e w' => e = .returned (nxR zs s at_) ∧ Below w.heap.size w w' := by
  unfold nxR
  by_cases h : at_ < 0
  · rw [if_pos h]; exact rnext_arg a _ c s at_ w h
  · rw [if_neg h]
    obtain ⟨p, rfl⟩ : ∃ p : Nat, at_ = (p : Int) := ⟨at_.toNat, by omega⟩
    exact rnext_some zs a b o c s p w hs (by omega) ha he
end Go.Proofs.Ytgflnkkhcapkmaa
