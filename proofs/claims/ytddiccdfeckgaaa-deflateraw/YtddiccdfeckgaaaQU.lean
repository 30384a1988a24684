import Derived.Test.YtddiccdfeckgaaaQU0
/- Layer 6: the document's Raw. -/
namespace Go.Proofs.Ytddiccdfeckgaaa
open Go.RowKit
set_option maxRecDepth 100000
set_option linter.unusedVariables false
set_option linter.unusedSimpArgs false
theorem fixA_in : Hf.inR I.fixA := fun i h => by
  have hx := List.getElem_mem h
  unfold I.fixA at hx
  simp only [List.mem_append, List.mem_replicate] at hx
  unfold I.fixA
  omega
theorem fixD_in : Hf.inR I.fixD := fun i h => by
  have hx := List.eq_of_mem_replicate (List.getElem_mem h)
  omega
theorem RB.fresh (w : World) (c0 c1 c2 : UInt8) : RB (w.alloc (.cells #[.int .u8 (c0.toNat : Int), .int .u8 (c1.toNat : Int), .int .u8 (c2.toNat : Int)] 5)) w.heap.size (.slice (some ⟨w.heap.size, 0, none⟩) 3 3) [c0, c1, c2] := by
  refine ⟨rfl, Or.inr ⟨w.heap.size, 3, _, rfl, Nat.le_refl _, heap_alloc_new w _, Nat.le_refl _, by unfold maxLen; omega, rfl, rfl⟩⟩
theorem RB.row {w : World} {B : Nat} {sl : Value} {L : List Nat} (h : RB w B sl (bL L)) (h0 : 0 < L.length) (hb : ∀ x ∈ L, x < 2) :
    ∃ g c, sl = .slice (some ⟨g, 0, none⟩) L.length c ∧ L.length ≤ c ∧ g < w.heap.size ∧ ∀ i (hi : i < L.length), w.cell? ⟨g, i, none⟩ = some (.int .u8 (L[i] : Int)) := by
  obtain ⟨g, c, e, _, _⟩ := World.ownsRow.form h (by rw [bL_len]; exact h0)
  obtain ⟨a, c', e', hc⟩ := h.len
  rw [bL_len] at e e' hc
  rw [e] at e'
  injection e' with _ _ e3
  refine ⟨g, c, e, by omega, (h.lt g (by rw [e]; rfl)).2, fun i hi => ?_⟩
  have hl : i < (bL L).length := by rw [bL_len]; exact hi
  have := World.ownsRow.cells h (g := g) (by rw [e]; rfl) i _ (byQ_at (bL L) i hl)
  rw [Addr.add_mid, Nat.zero_add] at this
  rw [this]
  have hx := hb L[i] (List.getElem_mem hi)
  congr 3
  simp only [bL, List.getElem_map]
  rw [UInt8.toNat_ofNat']
  omega
def RdRel (W : World) (s : ByteArray) (l i : Value) (wr : World) : Prop :=
  ∃ (a f : Nat) (L : List Nat), i = .int .i64 (a : Int) ∧ a ≤ s.size ∧ RB wr W.heap.size l (bL L) ∧ Below W.heap.size W wr ∧ L.length ≤ 3 + 9 * a ∧ s.size - a ≤ f ∧ L ++ D.toks s f a = [1, 1, 0] ++ D.toks s s.size 0
def SyRel (base S : Nat) (N : Nat) (y k : Value) : Prop := ∃ j, j ≤ N ∧ k = .int .i64 ((base + j : Nat) : Int) ∧ y = .int .i64 ((base + min (j - 1) S : Nat) : Int)
def ObRel (W : World) (b : Nat) (T : List Nat) (M : Nat) (i : Value) (wr : World) : Prop := ∃ k, k ≤ T.length ∧ i = .int .i64 (k : Int) ∧ Blk wr b (byA (D.pkF T M k)) 5 ∧ Turned b W wr
def P8Rel (x r : Nat) (p k : Value) : Prop := ∃ j, j ≤ r ∧ k = .int .i64 (j : Int) ∧ p = .int .u8 ((D.two j * x : Nat) : Int)
/-- a code by the tables -/
theorem codeT {W wr : World} {L : List Nat} {sl : Value} (hR : RB wr W.heap.size sl (bL L)) (hb : Below W.heap.size W wr) (hL : L.length ≤ 900000) (n v k : Nat) (hc : D.hb v k = D.sc n) (hv : v < 65536) (hk : 1 ≤ k) (hk9 : k ≤ 9) :
    Hid (∀ w', Below wr.heap.size wr w' → Calls Try.prog 29 #[sl, .int .i64 (v : Int), .int .i64 (k : Int)] w' fun e w'' => ∃ sl', e = .returned sl' ∧ RB w'' W.heap.size sl' (bL (L ++ D.sc n)) ∧ Below W.heap.size W w'') := Lib.hid (fun w' hw' => by
  have h1 := rcode6_any (hR.keep hw') (by have := hb.size; have := hw'.size; omega) hL v k hv hk hk9
  rw [hc] at h1
  exact h1.mono fun e w'' ⟨sl', h2, h3, h4⟩ => ⟨sl', h2, h3, (hb.trans (hw'.mono hb.size)).trans h4⟩)
theorem cA_all : ∀ n : Fin 288, (D.cA n).1 < 512 ∧ 1 ≤ (D.cA n).2 ∧ (D.cA n).2 ≤ 9 := by decide +kernel
/-- what lies in the tables at a symbol -/
theorem tabA {W wr : World} {ga bx : Nat} (hI : Ints W I.fixA (some ⟨ga, 0, none⟩) ga 0) (hX : Blk W bx (intA (Hf.cd I.fixA) 288) 3) (hb : Below W.heap.size W wr) (n : Nat) (hn : n < 288) :
    wr.cell? ⟨ga, n, none⟩ = some (.int .i64 ((D.cA n).2 : Int)) ∧ wr.cell? ⟨bx, n, none⟩ = some (.int .i64 ((D.cA n).1 : Int)) := by
  obtain ⟨h1, h2, _, _⟩ := D.fixA_all ⟨n, hn⟩
  have h2 : Hf.cd I.fixA n = (D.cA n).1 := h2
  constructor
  · have := (hI.keep hb).2.2 n (by rw [fixA_len]; exact hn)
    rw [Nat.zero_add] at this
    rw [this]
    exact congrArg (fun z => some (Value.int .i64 z)) h1
  · rw [((hX.keep hb).cell n).trans (intA_at _ 288 n hn), h2]
theorem tabD {W wr : World} {bx : Nat} (hX : Blk W bx (intA (Hf.cd I.fixD) 32) 3) (hb : Below W.heap.size W wr) (n : Nat) (hn : n < 32) : wr.cell? ⟨bx, n, none⟩ = some (.int .i64 (n : Int)) := by
  obtain ⟨_, h2⟩ := D.fixD_all ⟨n, hn⟩
  have h2 : Hf.cd I.fixD n = n := h2
  rw [((hX.keep hb).cell n).trans (intA_at _ 32 n hn), h2]
set_option maxHeartbeats 1500000 in
theorem rraw6_any (s : ByteArray) (w : World) (hs : s.size ≤ 2048) :
    Calls Try.prog 12 #[.string s] w fun e w' => e = .returned (.string (bs (D.pack s))) ∧ Below w.heap.size w w' := by
  obtain ⟨O, hO⟩ : ∃ O, O = bs (D.pack s) := ⟨_, rfl⟩
  have HO := Lib.hid hO
  rw [← hO]
  clear hO
  go_enter Try.func12, Try.ntmps12
  go_upto_region 2 with (go_at_call 27; refine (plain_any _).mono ?_; rintro e w1 ⟨s3, t3, rfl, o3, p3, hb1⟩)
  obtain ⟨ga, ca, rfl, ia⟩ := o3.ints fixA_mem (by rw [fixA_len]; omega)
  obtain ⟨gb, cb, rfl, ib⟩ := p3.ints (fun x hx => by have := List.eq_of_mem_replicate hx; omega) (by rw [fixD_len]; omega)
  have HC1 := Lib.hid (rcodes_any I.fixA (some ⟨ga, 0, none⟩) ga 0 ca w1 (by rw [fixA_len]; omega) (Lib.hid fixA_in) (Lib.hid ia))
  have HC2 := Lib.hid (fun W (h : Below w1.heap.size w1 W) => rcodes_any I.fixD (some ⟨gb, 0, none⟩) gb 0 cb W (by rw [fixD_len]; omega) (Lib.hid fixD_in) (Lib.hid (ib.keep h)))
  have HIA := Lib.hid ia
  have HB1 := Lib.hid hb1
  unfold RcPost at HC1 HC2
  rw [fixA_len] at HC1 ⊢
  rw [fixD_len] at HC2 ⊢
  clear o3 p3 ia ib hb1
  go_upto_region 3 with (first
    | (go_at_call 28; refine (HC2.out _ hb2).mono ?_; rintro e w3 ⟨by_, ly, hY3, rfl, hb3⟩)
    | (go_at_call 28; refine HC1.out.mono ?_; rintro e w2 ⟨bx, lx, hX2, rfl, hb2⟩))
  have HIA3 := Lib.hid ((HIA.out.keep hb2).keep hb3)
  have HX3 := Lib.hid (hX2.keep hb3)
  have HY3 := Lib.hid hY3
  have HB3 := Lib.hid (bq_trans (bq_trans HB1.out hb2) hb3)
  clear hb2 hb3 hX2 hY3 lx ly HC1 HC2 HIA HB1
  go_upto_region 4 with (fail)
  have hl0 : RB (w3.alloc (.cells #[.int .u8 1, .int .u8 1, .int .u8 0] 5)) w3.heap.size (.slice (some ⟨w3.heap.size, 0, none⟩) 3 3) (bL [1, 1, 0]) := RB.fresh w3 1 1 0
  have HST : Hid (RdRel w3 s (.slice (some ⟨w3.heap.size, 0, none⟩) 3 3) (.int .i64 0) (w3.alloc (.cells #[.int .u8 1, .int .u8 1, .int .u8 0] 5))) := Lib.hid ⟨0, s.size, [1, 1, 0], rfl, Nat.zero_le _, hl0, bq_alloc (bq_refl w3) _, by decide, by omega, rfl⟩
  clear hl0
  generalize w3.alloc (.cells #[.int .u8 1, .int .u8 1, .int .u8 0] 5) = W4 at *
  obtain ⟨l0, hl0⟩ : ∃ l0, l0 = Value.slice (some ⟨w3.heap.size, 0, none⟩) 3 3 := ⟨_, rfl⟩
  rw [← hl0] at HST ⊢
  clear hl0
  go_wp2
  go_loopw [7, 8] (fun l i wr => RdRel w3 s l i wr) (fun _ i _ => s.size - (intOf i).toNat)
  case atStart => exact HST.out
  case round =>
    obtain ⟨a, f, L, rfl, has, hR, hb, hLl, hf, hT⟩ := hrel
    clear HST
    have HR := Lib.hid hR
    have HB := Lib.hid hb
    obtain ⟨la, lc, rfl, _⟩ := hR.len
    rw [bL_len] at HR ⊢
    obtain ⟨LL, hLL⟩ : ∃ LL, LL = L.length := ⟨_, rfl⟩
    rw [← hLL] at HR ⊢
    have HLL := Lib.hid hLL
    clear hR hb hLL
    by_cases ha : a < s.size
    · have t0 : decide ((a : Int) < (s.size : Int)) = true := by rw [decide_eq_true_iff]; omega
      have t0' : decide (a < s.size) = true := by rw [decide_eq_true_iff]; omega
      have HRU := Lib.hid (rrun_any s a wr (by omega) ha)
      obtain ⟨f', rfl⟩ : ∃ f', f = f' + 1 := ⟨f - 1, by omega⟩
      rw [D.toks, if_pos ha, ← List.append_assoc] at hT
      have hro := D.run_ok s a ha
      have htl := D.tok_len s a ha
      have hsl := D.stp_le s a ha
      have HT := Lib.hid hT
      obtain ⟨R, hRr⟩ : ∃ R, D.run s a = R := ⟨_, rfl⟩
      obtain ⟨n, d⟩ := R
      rw [hRr] at HRU hro
      unfold pairV at HRU
      by_cases hn0 : n = 0
      · have htok : D.tok s a = D.sc (D.at8 s a) := by unfold D.tok; rw [hRr, if_pos hn0]
        have hstp : D.stp s a = 1 := by unfold D.stp; rw [hRr, if_pos hn0]
        rw [htok, hstp] at HT
        rw [htok, hstp] at htl
        rw [D.at8_at s a ha] at HT htl
        have t1 : ((n : Int) == 0) = true := by rw [beq_iff_eq]; omega
        have hw8 : IntKind.i64.wrap (s[a].toNat : Int) = (s[a].toNat : Int) := by have := s[a].toNat_lt; exact i64_wrap _ (by omega) (by omega)
        have hc8 := s[a].toNat_lt
        obtain ⟨c, hc⟩ : ∃ c, s[a].toNat = c := ⟨_, rfl⟩
        rw [hc] at HT htl hw8 hc8
        have hc9 : c < 288 := by omega
        obtain ⟨k1, k2, k3⟩ := cA_all ⟨c, hc9⟩
        have k1 : (D.cA c).1 < 512 := k1
        have k2 : 1 ≤ (D.cA c).2 := k2
        have k3 : (D.cA c).2 ≤ 9 := k3
        have i1 : (a : Int) < (s.size : Int) := by omega
        have i2 : (0 : Int) ≤ (a : Int) := by omega
        have i3 : (c : Int) < 288 := by omega
        have i4 : (0 : Int) ≤ (c : Int) := by omega
        clear hT hro hsl hRr hn0 htok hstp
        go_upto_region 9 with (go_at_call 9; refine HRU.out.mono ?_; rintro e w5 ⟨rfl, hb5⟩)
        have hR5 := HR.out.keep hb5
        have hb35 : Below w3.heap.size w3 w5 := HB.out.trans (hb5.mono HB.out.size)
        have HCO := codeT hR5 hb35 (by omega) c (D.cA c).1 (D.cA c).2 (D.sc_cA c).symm (by omega) k2 k3
        obtain ⟨ta, tx⟩ := tabA HIA3.out HX3.out hb35 c hc9
        have hd0 : Below w5.heap.size w5 w5.drew := bq_drew (bq_refl w5)
        generalize (D.cA c).1 = v at *
        generalize (D.cA c).2 = k at *
        clear hR5 hb5 HRU HR HB
        go_region_with (go_at_call 29; refine (HCO.out _ (by first | assumption | exact hd0)).mono ?_; rintro e w9 ⟨sl9, rfl, hR9, hb9⟩)
        all_goals
          have HFIN : Hid (RdRel w3 s sl9 (.int .i64 ((a + 1 : Nat) : Int)) w9) := Lib.hid ⟨a + 1, f', L ++ D.sc c, rfl, by omega, hR9, hb9, by rw [List.length_append]; omega, by omega, HT.out⟩
          obtain ⟨a1, ha1⟩ : ∃ x, x = a + 1 := ⟨_, rfl⟩
          have e1 : (a : Int) + 1 = (a1 : Int) := by omega
          rw [← ha1] at HFIN
          have HA1 := Lib.hid ha1
          clear hR9 hb9 ha1
          go_wp2
          go_roundw
          case rel => exact HFIN.out
          case measure => have := HA1.out; simp [intOf]; omega
      · have htok : D.tok s a = D.lb n ++ D.db d := by unfold D.tok; rw [hRr, if_neg hn0]
        have hstp : D.stp s a = n := by unfold D.stp; rw [hRr, if_neg hn0]
        have t1 : ((n : Int) == 0) = false := by rw [beq_eq_false_iff_ne]; omega
        have hro2 : 3 ≤ n ∧ n ≤ 258 ∧ 1 ≤ d ∧ d ≤ a ∧ d ≤ 32768 := by
          rcases hro with ⟨h, _⟩ | ⟨h1, h2, h3, h4, h5, _⟩
          · exact absurd h hn0
          · exact ⟨h1, h2, h3, h4, h5⟩
        obtain ⟨r1, r2, r3, r4, r5⟩ := hro2
        obtain ⟨z1, z2, z3, z4⟩ := D.lS_ok n r1 r2
        obtain ⟨y1, y2, y3, y4, y5⟩ := D.dS_ok d r3 r5
        have hdb : D.db d = D.hb (D.sS (d - 1) 2) 5 ++ D.nb (d - (I.ds (D.sS (d - 1) 2)).1) (I.ds (D.sS (d - 1) 2)).2 := by unfold D.db; rw [y4, y5]
        have h2lt := D.sR_lt (d - 1) 2
        have hN13 := D.sN_le (d - 1) 2 13 (by omega) (by omega)
        rw [htok, hstp, z4, hdb] at HT
        rw [htok, hstp, List.length_append] at htl
        rw [hstp] at hsl
        rw [z4, List.length_append, D.nb_len, hdb, List.length_append, D.nb_len, D.hb_len] at htl
        obtain ⟨S, hS⟩ : ∃ S, S = D.lS n := ⟨_, rfl⟩
        obtain ⟨Dn, hDn⟩ : ∃ S, S = D.sS (d - 1) 2 := ⟨_, rfl⟩
        rw [← hS] at z1 z2 z3 HT htl
        rw [← hDn] at y1 y2 y3 HT htl
        have HLE := Lib.hid (fun k W (hk : k < 29) => rlen_any (257 + k) k W (by omega) hk)
        have HDE := Lib.hid (fun k W (hk : k < 30) => rdst_any k W hk)
        have HZ3 := Lib.hid z3
        have HY3b := Lib.hid y3
        have hbits : (I.ln S).2 ≤ 16 ∧ (I.ds Dn).2 ≤ 16 := by
          constructor
          · have : ∀ k : Fin 29, (I.ln k).2 ≤ 16 := by decide +kernel
            exact this ⟨S, z1⟩
          · have : ∀ k : Fin 30, (I.ds k).2 ≤ 16 := by decide +kernel
            exact this ⟨Dn, y1⟩
        obtain ⟨lbase, hlb⟩ : ∃ x, x = (I.ln S).1 := ⟨_, rfl⟩
        obtain ⟨lbits, hlt⟩ : ∃ x, x = (I.ln S).2 := ⟨_, rfl⟩
        obtain ⟨dbase, hdbs⟩ : ∃ x, x = (I.ds Dn).1 := ⟨_, rfl⟩
        obtain ⟨dbits, hdt⟩ : ∃ x, x = (I.ds Dn).2 := ⟨_, rfl⟩
        have HLS := Lib.hid (fun W => rlen_any (257 + S) S W (by omega) z1)
        have HDS := Lib.hid (fun W => rdst_any Dn W y1)
        rw [← hlb, ← hlt] at HT HLS
        rw [← hdbs, ← hdt] at HT HDS
        rw [← hlt, ← hdt] at htl hbits
        rw [← hlb] at z2
        rw [← hdbs] at y2
        obtain ⟨b1, b2⟩ := hbits
        clear hT hro hRr hn0 htok hstp hS hDn hlb hlt hdbs hdt z3 z4 y3 y4 y5 hdb h2lt hN13
        obtain ⟨Y, hY⟩ : ∃ Y, Y = 257 + S := ⟨_, rfl⟩
        have hY9 : Y < 288 := by omega
        rw [← hY] at HT htl HLS
        have HYE := Lib.hid hY
        go_upto_region 11 with (go_at_call 9; refine HRU.out.mono ?_; rintro e w5 ⟨rfl, hb5⟩)
        have HR5 := Lib.hid (HR.out.keep hb5)
        have HB5 : Hid (Below w3.heap.size w3 w5) := Lib.hid (HB.out.trans (hb5.mono HB.out.size))
        clear hb5 HRU HR HB hY
        go_wp2
        go_loop [12, 13] (fun y k => SyRel 257 S 29 y k) (fun _ k => 286 - (intOf k).toNat)
        case atStart => exact ⟨0, by omega, rfl, rfl⟩
        case round =>
          obtain ⟨j, hj, rfl, rfl⟩ := hrel
          obtain ⟨K, hK⟩ : ∃ K, K = 257 + j := ⟨_, rfl⟩
          obtain ⟨y, hy⟩ : ∃ y, y = 257 + min (j - 1) S := ⟨_, rfl⟩
          rw [← hK, ← hy]
          have hy9 : y < 288 := by omega
          have HKY := Lib.hid (And.intro hK hy)
          obtain ⟨K1, hK1⟩ : ∃ x, x = 257 + (j + 1) := ⟨_, rfl⟩
          have eK : (K : Int) + 1 = (K1 : Int) := by omega
          have HK1 := Lib.hid hK1
          have hK19 : K1 ≤ 300 := by omega
          clear hK1
          by_cases hlt : j < 29
          · have u0 : decide ((K : Int) < 286) = true := by rw [decide_eq_true_iff]; omega
            have HC := Lib.hid (fun W => HLE.out j W hlt)
            rw [← hK] at HC
            have hz := HZ3.out j hlt
            obtain ⟨bs_, hbs⟩ : ∃ x, x = (I.ln j).1 := ⟨_, rfl⟩
            rw [← hbs] at HC hz
            generalize (I.ln j).2 = bt_ at HC
            clear hbs hK hy
            by_cases hle : bs_ ≤ n
            · have u1 : decide ((bs_ : Int) ≤ (n : Int)) = true := by rw [decide_eq_true_iff]; omega
              have u1' : decide (bs_ ≤ n) = true := by rw [decide_eq_true_iff]; exact hle
              have hjS := hz.1 hle
              clear hz
              go_wp2_with (go_at_call 30; refine (HC.out _).mono ?_; rintro e w' ⟨rfl, rfl⟩)
              go_round
              case rel => exact ⟨j + 1, by omega, by rw [HK1.out], by rw [HKY.out.1, show 257 + j = 257 + min (j + 1 - 1) S by omega]⟩
              case measure => have := HK1.out; have := HKY.out; simp [intOf]; omega
            · have u1 : decide ((bs_ : Int) ≤ (n : Int)) = false := by rw [decide_eq_false_iff_not]; omega
              have u1' : decide (bs_ ≤ n) = false := by rw [decide_eq_false_iff_not]; exact hle
              have hjS : ¬ j ≤ S := fun h => hle (hz.2 h)
              clear hz
              go_wp2_with (go_at_call 30; refine (HC.out _).mono ?_; rintro e w' ⟨rfl, rfl⟩)
              go_round
              case rel => exact ⟨j + 1, by omega, by rw [HK1.out], by rw [HKY.out.2, show 257 + min (j - 1) S = 257 + min (j + 1 - 1) S by omega]⟩
              case measure => have := HK1.out; have := HKY.out; simp [intOf]; omega
          · have u0 : decide ((K : Int) < 286) = false := by rw [decide_eq_false_iff_not]; omega
            have hyY : y = Y := by rw [hy, HYE.out]; omega
            rw [hyY]
            obtain ⟨k1, k2, k3⟩ := cA_all ⟨Y, hY9⟩
            have k1 : (D.cA Y).1 < 512 := k1
            have k2 : 1 ≤ (D.cA Y).2 := k2
            have k3 : (D.cA Y).2 ≤ 9 := k3
            have HCO := codeT HR5.out HB5.out (by omega) Y (D.cA Y).1 (D.cA Y).2 (D.sc_cA Y).symm (by omega) k2 k3
            obtain ⟨ta, tx⟩ := tabA HIA3.out HX3.out HB5.out Y hY9
            have hd0 : Below w5.heap.size w5 w5.drew := bq_drew (bq_refl w5)
            have i3 : (Y : Int) < 288 := by omega
            have i4 : (0 : Int) ≤ (Y : Int) := by omega
            generalize (D.cA Y).1 = v at *
            generalize (D.cA Y).2 = k at *
            clear hK hy hyY HKY hy9
            go_upto_region 19 with (go_at_call 30; refine (HLS.out _).mono ?_; rintro e w' ⟨rfl, rfl⟩)
            go_region_with (go_at_call 29; refine (HCO.out _ (by first | assumption | exact hd0)).mono ?_; rintro e w9 ⟨sl9, rfl, hR9, hb9⟩)
            all_goals
              obtain ⟨xl, hxl⟩ : ∃ x, x = n - lbase := ⟨_, rfl⟩
              have exl : (n : Int) - (lbase : Int) = (xl : Int) := by omega
              rw [← hxl] at HT
              have hxl9 : xl < 65536 := by omega
              have zb9 := hb9.size
              have HNU := Lib.hid (rnumber6_any hR9 zb9 (by rw [List.length_append]; omega) xl lbits hxl9 b1)
              have HB9 := Lib.hid hb9
              clear hR9 hb9 hxl HCO ta tx HR5 HB5 hd0 HLS
              go_upto_region 21 with (go_at_call 31; refine HNU.out.mono ?_; rintro e w10 ⟨sl10, rfl, hR10, hb10⟩)
              have HR10 := Lib.hid hR10
              have HB10 : Hid (Below w3.heap.size w3 w10) := Lib.hid (HB9.out.trans hb10)
              clear hR10 hb10 HNU HB9
              go_wp2
              go_loop [12, 18] (fun y k => SyRel 0 Dn 30 y k) (fun _ k => 30 - (intOf k).toNat)
              case atStart => exact ⟨0, by omega, rfl, by rw [Nat.zero_sub, Nat.zero_min]; rfl⟩
              case round =>
                obtain ⟨j2, hj2, rfl, rfl⟩ := hrel
                obtain ⟨K2, hK2⟩ : ∃ K, K = 0 + j2 := ⟨_, rfl⟩
                obtain ⟨y2_, hy2_⟩ : ∃ y, y = 0 + min (j2 - 1) Dn := ⟨_, rfl⟩
                rw [← hK2, ← hy2_]
                have hy29 : y2_ < 32 := by omega
                have HKY2 := Lib.hid (And.intro hK2 hy2_)
                obtain ⟨K3, hK3⟩ : ∃ x, x = 0 + (j2 + 1) := ⟨_, rfl⟩
                have eK3 : (K2 : Int) + 1 = (K3 : Int) := by omega
                have HK3 := Lib.hid hK3
                have hK39 : K3 ≤ 300 := by omega
                clear hK3
                by_cases hlt2 : j2 < 30
                · have v0 : decide ((K2 : Int) < 30) = true := by rw [decide_eq_true_iff]; omega
                  have HC := Lib.hid (fun W => HDE.out j2 W hlt2)
                  rw [show j2 = K2 by omega] at HC
                  have hz := HY3b.out j2 hlt2
                  rw [show (I.ds j2).1 = (I.ds K2).1 by rw [show j2 = K2 by omega]] at hz
                  obtain ⟨bs_, hbs⟩ : ∃ x, x = (I.ds K2).1 := ⟨_, rfl⟩
                  rw [← hbs] at HC hz
                  generalize (I.ds K2).2 = bt_ at HC
                  clear hbs hK2 hy2_
                  by_cases hle : bs_ ≤ d
                  · have v1 : decide ((bs_ : Int) ≤ (d : Int)) = true := by rw [decide_eq_true_iff]; omega
                    have v1' : decide (bs_ ≤ d) = true := by rw [decide_eq_true_iff]; exact hle
                    have hjS := hz.1 hle
                    clear hz
                    go_wp2_with (go_at_call 32; refine (HC.out _).mono ?_; rintro e w' ⟨rfl, rfl⟩)
                    go_round
                    case rel => exact ⟨j2 + 1, by omega, by rw [HK3.out], by rw [HKY2.out.1, show 0 + j2 = 0 + min (j2 + 1 - 1) Dn by omega]⟩
                    case measure => have := HK3.out; have := HKY2.out; simp [intOf]; omega
                  · have v1 : decide ((bs_ : Int) ≤ (d : Int)) = false := by rw [decide_eq_false_iff_not]; omega
                    have v1' : decide (bs_ ≤ d) = false := by rw [decide_eq_false_iff_not]; exact hle
                    have hjS : ¬ j2 ≤ Dn := fun h => hle (hz.2 h)
                    clear hz
                    go_wp2_with (go_at_call 32; refine (HC.out _).mono ?_; rintro e w' ⟨rfl, rfl⟩)
                    go_round
                    case rel => exact ⟨j2 + 1, by omega, by rw [HK3.out], by rw [HKY2.out.2, show 0 + min (j2 - 1) Dn = 0 + min (j2 + 1 - 1) Dn by omega]⟩
                    case measure => have := HK3.out; have := HKY2.out; simp [intOf]; omega
                · have v0 : decide ((K2 : Int) < 30) = false := by rw [decide_eq_false_iff_not]; omega
                  have hyD : y2_ = Dn := by rw [hy2_]; omega
                  rw [hyD]
                  have td := tabD HY3.out HB10.out Dn (by omega)
                  have i5 : (Dn : Int) < 32 := by omega
                  have i6 : (0 : Int) ≤ (Dn : Int) := by omega
                  have zb10 := HB10.out.size
                  have HCD := Lib.hid (rcode6_any HR10.out zb10 (by rw [List.length_append, List.length_append, D.nb_len]; omega) Dn 5 (by omega) (by omega) (by omega))
                  clear hK2 hy2_ hyD HKY2 hy29 HK3 eK3 hK39 HK1 eK hK19
                  go_upto_region 30 with (first
                    | (go_at_call 32; refine (HDS.out _).mono ?_; rintro e w' ⟨rfl, rfl⟩)
                    | (go_at_call 29; refine HCD.out.mono ?_; rintro e w11 ⟨sl11, rfl, hR11, hb11⟩))
                  obtain ⟨xd, hxd⟩ : ∃ x, x = d - dbase := ⟨_, rfl⟩
                  have exd : (d : Int) - (dbase : Int) = (xd : Int) := by omega
                  rw [← hxd] at HT
                  have hxd9 : xd < 65536 := by omega
                  have HB11 : Hid (Below w3.heap.size w3 w11) := Lib.hid (HB10.out.trans hb11)
                  have zb11 := HB11.out.size
                  have HNU2 := Lib.hid (rnumber6_any hR11 zb11 (by rw [List.length_append, List.length_append, List.length_append, D.nb_len, D.hb_len]; omega) xd dbits hxd9 b2)
                  clear hR11 hb11 HCD HR10 HB10 hxd
                  go_upto_region 31 with (go_at_call 31; refine HNU2.out.mono ?_; rintro e w12 ⟨sl12, rfl, hR12, hb12⟩)
                  have HFIN : Hid (RdRel w3 s sl12 (.int .i64 ((a + n : Nat) : Int)) w12) := Lib.hid ⟨a + n, f', _, rfl, hsl, hR12, HB11.out.trans hb12, by simp only [List.length_append, D.nb_len, D.hb_len]; omega, by omega, by
                    have h := HT.out
                    simp only [List.append_assoc] at h ⊢
                    exact h⟩
                  obtain ⟨a1, ha1⟩ : ∃ x, x = a + n := ⟨_, rfl⟩
                  have e1 : (a : Int) + (n : Int) = (a1 : Int) := by omega
                  rw [← ha1] at HFIN
                  have HA1 := Lib.hid ha1
                  clear hR12 hb12 HNU2 HB11 ha1
                  go_wp2
                  go_roundw
                  case rel => exact HFIN.out
                  case measure => have := HA1.out; simp [intOf]; omega
    · have t0 : decide ((a : Int) < (s.size : Int)) = false := by rw [decide_eq_false_iff_not]; omega
      have t0' : decide (a < s.size) = false := by rw [decide_eq_false_iff_not]; omega
      rw [D.toks_end s f a (by omega), List.append_nil] at hT
      have hall : L ++ D.sc 256 = D.allB s := by rw [hT]; rfl
      obtain ⟨k1, k2, k3⟩ := cA_all ⟨256, by omega⟩
      have HCO := codeT HR.out HB.out (by omega) 256 0 7 rfl (by omega) (by omega) (by omega)
      obtain ⟨ta, tx⟩ := tabA HIA3.out HX3.out HB.out 256 (by omega)
      have ta : wr.cell? ⟨ga, 256, none⟩ = some (.int .i64 7) := ta
      have tx : wr.cell? ⟨bx, 256, none⟩ = some (.int .i64 0) := tx
      rw [hall] at HCO
      have hd0 : Below wr.heap.size wr wr.drew := bq_drew (bq_refl wr)
      have hTl : (D.allB s).length ≤ 20000 := by
        rw [← hall, List.length_append]
        have := D.sc_len 256
        omega
      have hT0 : 0 < (D.allB s).length := by rw [← hall, List.length_append]; show 0 < L.length + 7; omega
      have hTb : ∀ x ∈ D.allB s, x < 2 := fun x hx => D.bits_all s x (List.mem_append_left _ hx)
      have hpk : D.pack s = D.pkF (D.allB s) (((D.allB s).length + 7) / 8) (D.allB s).length := (D.pkF_all (D.allB s)).symm
      have HPK := Lib.hid hpk
      obtain ⟨T, hTT⟩ : ∃ T, T = D.allB s := ⟨_, rfl⟩
      rw [← hTT] at HCO hTl hT0 HPK
      have HTB : Hid (∀ x ∈ T, x < 2) := Lib.hid (by rw [hTT]; exact hTb)
      clear hT hall hTb hpk hTT k1 k2 k3
      go_upto_region 32 with (fail)
      go_region_with (go_at_call 29; refine (HCO.out _ (by first | assumption | exact hd0)).mono ?_; rintro e w9 ⟨sl9, rfl, hR9, hb9⟩)
      all_goals
        obtain ⟨g, cl, hsl9, hcl, hgl, hcells⟩ := hR9.row hT0 HTB.out
        obtain ⟨N, hN⟩ : ∃ N, N = T.length := ⟨_, rfl⟩
        rw [← hN] at hsl9 hcl hTl HPK
        rw [hsl9]
        have HCE := Lib.hid hcells
        have HNN := Lib.hid hN
        obtain ⟨N7, hN7⟩ : ∃ x, x = N + 7 := ⟨_, rfl⟩
        obtain ⟨M, hM⟩ : ∃ x, x = N7 / 8 := ⟨_, rfl⟩
        have e7 : (N : Int) + 7 = (N7 : Int) := by omega
        have e8 : (N7 : Int) / 8 = (M : Int) := by omega
        have hM9 : M ≤ 100000 := by omega
        rw [← hN7, ← hM] at HPK
        have HBL9 := Lib.hid hb9
        have hNM : N ≤ 8 * M := by omega
        clear hR9 hb9 hcells hsl9 HCO ta tx hd0 hN hN7 hM hT0
        go_upto_region 34 with (refine wl_bytes _ _ rfl rfl M rfl rfl (by omega) ?_; intro W6 b6 B6 l6 k6)
        rw [← D.pkF_zero T M] at B6
        have HCE6 : Hid (∀ W, Turned b6 W6 W → ∀ i (hi : i < T.length), W.cell? ⟨g, i, none⟩ = some (.int .u8 (T[i] : Int))) := Lib.hid (fun W hT i hi => by
          rw [hT.cell (p := ⟨g, i, none⟩) (by show g ≠ b6; omega), k6.cell (p := ⟨g, i, none⟩) hgl]
          exact HCE.out i hi)
        have HST6 : Hid (ObRel W6 b6 T M (.int .i64 0) W6) := Lib.hid ⟨0, Nat.zero_le _, rfl, B6, turned_refl _ _⟩
        have HBW6 : Hid (∀ W, Turned b6 W6 W → Below w.heap.size w W) := Lib.hid (fun W hT => hT.below (bq_trans (HB3.out.trans (HBL9.out.mono HB3.out.size)) k6) (by have := HBL9.out.size; have := HB3.out.size; omega))
        clear B6 l6 k6 HCE
        go_wp2
        go_loopw [22] (fun i wq => ObRel W6 b6 T M i wq) (fun i _ => N - (intOf i).toNat)
        case atStart => exact HST6.out
        case round =>
          rename_i wo
          obtain ⟨i, hi, rfl, hBk, hTu⟩ := hrel
          clear HST6
          have HBk := Lib.hid hBk
          have HTu := Lib.hid hTu
          clear hBk hTu
          have hiN := HNN.out
          by_cases hlt : i < N
          · have u0 : decide ((i : Int) < (N : Int)) = true := by rw [decide_eq_true_iff]; omega
            have hiT : i < T.length := by omega
            have hce := HCE6.out _ HTu.out i hiT
            have hx2 := HTB.out T[i] (List.getElem_mem hiT)
            have hst := D.pkF_set T M i hiT (by omega) HTB.out
            have hck := D.chunk_step T i hiT
            have hcl2 := D.chunk_lt T (i + 1) (i / 8) HTB.out
            have hcl1 := D.chunk_lt T i (i / 8) HTB.out
            obtain ⟨x, hx⟩ : ∃ x, x = T[i] := ⟨_, rfl⟩
            rw [← hx] at hce hx2 hst hck
            obtain ⟨r, hr⟩ : ∃ r, r = i % 8 := ⟨_, rfl⟩
            obtain ⟨q, hq⟩ : ∃ q, q = i / 8 := ⟨_, rfl⟩
            have er : (i : Int) % 8 = (r : Int) := by omega
            have eq_ : (i : Int) / 8 = (q : Int) := by omega
            have hr8 : r < 8 := by omega
            rw [← hr, ← hq] at hst hck
            rw [← hq] at hcl1 hcl2
            obtain ⟨C, hC⟩ : ∃ C, C = D.val (((T.take i).drop (8 * q)).take 8) := ⟨_, rfl⟩
            rw [← hC] at hst hck hcl1
            have hqM : q < M := by omega
            have hcq : wr.cell? ⟨b6, q, none⟩ = some (.int .u8 (C : Int)) := by
              have h1 := (HBk.out.cell q).trans (byA_at (D.pkF T M i) q (by rw [D.pkF_len]; exact hqM))
              rw [D.pkF_get, ← hC, UInt8.toNat_ofNat', Nat.mod_eq_of_lt hcl1] at h1
              exact h1
            have hfq := HBk.out.frozen q
            have hsum : C + D.two r * x < 256 := by rw [← hck]; exact hcl2
            have i1 : (i : Int) < (N : Int) := by omega
            have i2 : (0 : Int) ≤ (i : Int) := by omega
            have i3 : (q : Int) < (M : Int) := by omega
            have i4 : (0 : Int) ≤ (q : Int) := by omega
            have hB2 := HBk.out.set q (.int .u8 ((C + D.two r * x : Nat) : Int))
            have hB3 : Blk (wr.setCell ⟨b6, q, none⟩ (.int .u8 ((C + D.two r * x : Nat) : Int))) b6 (byA (D.pkF T M (i + 1))) 5 := by
              rw [← hst, ← byA_set, UInt8.toNat_ofNat', Nat.mod_eq_of_lt hsum]
              exact hB2
            have HFIN : Hid (ObRel W6 b6 T M (.int .i64 ((i + 1 : Nat) : Int)) (wr.setCell ⟨b6, q, none⟩ (.int .u8 ((C + D.two r * x : Nat) : Int)))) := Lib.hid ⟨i + 1, by omega, rfl, hB3, turned_trans HTu.out (turned_set _ ⟨b6, q, none⟩ _)⟩
            obtain ⟨i1_, hi1⟩ : ∃ z, z = i + 1 := ⟨_, rfl⟩
            have ei : (i : Int) + 1 = (i1_ : Int) := by omega
            rw [← hi1] at HFIN
            have HI1 := Lib.hid hi1
            clear hB2 hB3 hst hck hC hcl1 hcl2 hx hr hq hi1 hiT hiN
            go_wp2
            go_loop [23, 24] (fun p k => P8Rel x r p k) (fun _ k => r - (intOf k).toNat)
            case atStart => exact ⟨0, Nat.zero_le _, rfl, by show _ = Value.int .u8 ((1 * x : Nat) : Int); rw [Nat.one_mul]⟩
            case round =>
              obtain ⟨j, hj, rfl, rfl⟩ := hrel
              have hj128 : ∀ k : Fin 8, D.two k ≤ 128 := by decide
              by_cases hjr : j < r
              · have v0 : decide ((j : Int) < (r : Int)) = true := by rw [decide_eq_true_iff]; omega
                have h1 := hj128 ⟨j + 1, by omega⟩
                have h1 : D.two (j + 1) ≤ 128 := h1
                have h2 : D.two (j + 1) * x ≤ 128 * 1 := Nat.mul_le_mul h1 (by omega)
                have h3 : D.two (j + 1) * x = 2 * (D.two j * x) := by rw [D.two, Nat.mul_assoc]
                obtain ⟨p, hp⟩ : ∃ p, p = D.two j * x := ⟨_, rfl⟩
                rw [← hp] at h3 ⊢
                obtain ⟨p2, hp2⟩ : ∃ p, p = D.two (j + 1) * x := ⟨_, rfl⟩
                rw [← hp2] at h2 h3
                have ep : (p : Int) * 2 = (p2 : Int) := by omega
                have hw8 : IntKind.u8.wrap ((p : Int) * 2) = (p2 : Int) := by rw [IntKind.wrap_u8]; omega
                have hw9 : IntKind.u8.wrap (p2 : Int) = (p2 : Int) := by rw [IntKind.wrap_u8]; omega
                have HP2 := Lib.hid hp2
                clear hp hp2 h1 h3 hj128
                go_wp2
                go_round
                case rel => exact ⟨j + 1, by omega, by go_num, by rw [HP2.out]⟩
                case measure => simp [intOf]; omega
              · have v0 : decide ((j : Int) < (r : Int)) = false := by rw [decide_eq_false_iff_not]; omega
                obtain rfl : j = r := by omega
                obtain ⟨p, hp⟩ : ∃ p, p = D.two j * x := ⟨_, rfl⟩
                rw [← hp] at hsum HFIN ⊢
                obtain ⟨Z, hZ⟩ : ∃ Z, Z = C + p := ⟨_, rfl⟩
                rw [← hZ] at hsum HFIN
                have eZ : (C : Int) + (p : Int) = (Z : Int) := by omega
                have hw8 : IntKind.u8.wrap ((C : Int) + (p : Int)) = (Z : Int) := by rw [IntKind.wrap_u8]; omega
                have hw9 : IntKind.u8.wrap (Z : Int) = (Z : Int) := by rw [IntKind.wrap_u8]; omega
                clear hp hZ hj128
                go_wp2
                go_roundw
                case rel => exact HFIN.out
                case measure => have := HI1.out; simp [intOf]; omega
          · have u0 : decide ((i : Int) < (N : Int)) = false := by rw [decide_eq_false_iff_not]; omega
            have hcv := blk_str HBk.out M
            rw [D.pkF_len, show i = N by omega, ← HPK.out, ← HO.out] at hcv
            clear hiN
            go_wp2
            go_ret
            exact ⟨rfl, HBW6.out _ HTu.out⟩
end Go.Proofs.Ytddiccdfeckgaaa
