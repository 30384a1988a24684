import Derived.Test.YtgflnkkhcapkmaaHzc
import Derived.Test.YtgflnkkhcapkmaaH3
import Derived.BigRegion
/- Layer 4: HuffBack, the last way. -/
namespace Go.Proofs.Ytgflnkkhcapkmaa
open Go.RowKit
set_option linter.unusedVariables false
/-- what lies in memory while the code is laid down: the table, its symbols, the codes, two bytes -/
structure Lain (zs : List Int) (w : World) (b1 b2 b4 b7 : Nat) (V : Nat) (wr : World) : Prop where
  sym : Blk wr b1 (intA (Hf.sy zs zs.length) (Hf.st zs 16)) 3
  tab : Blk wr b2 (tabA (Hf.cn zs) (some ⟨b1, 0, none⟩) (Hf.st zs 16)) 27
  cod : Blk wr b4 (intA (Hf.cd zs) zs.length) 3
  byt : Blk wr b7 (byA (Hf.lb V)) 5
  bel : Below w.heap.size w wr
  ap : b1 ≠ b7 ∧ b2 ≠ b7 ∧ b4 ≠ b7 ∧ w.heap.size ≤ b7
theorem Lain.drewN {zs : List Int} {w : World} {b1 b2 b4 b7 V : Nat} {wr : World} (h : Lain zs w b1 b2 b4 b7 V wr) (n : Nat) : Lain zs w b1 b2 b4 b7 V (wr.drewN n) :=
  ⟨h.sym.drewN n, h.tab.drewN n, h.cod.drewN n, h.byt.drewN n, bq_drewN h.bel n, h.ap⟩
theorem Lain.drew {zs : List Int} {w : World} {b1 b2 b4 b7 V : Nat} {wr : World} (h : Lain zs w b1 b2 b4 b7 V wr) : Lain zs w b1 b2 b4 b7 V wr.drew :=
  ⟨h.sym.drew, h.tab.drew, h.cod.drew, h.byt.drew, bq_drew h.bel, h.ap⟩
theorem Lain.set {zs : List Int} {w : World} {b1 b2 b4 b7 V : Nat} {wr : World} (h : Lain zs w b1 b2 b4 b7 V wr) (i : Nat) (c : UInt8) (V' : Nat) (he : (Hf.lb V).set i c = Hf.lb V') : Lain zs w b1 b2 b4 b7 V' (wr.setCell ⟨b7, i, none⟩ (.int .u8 (c.toNat : Int))) :=
  ⟨h.sym.other _ h.ap.1, h.tab.other _ h.ap.2.1, h.cod.other _ h.ap.2.2.1, by have := h.byt.set i (.int .u8 (c.toNat : Int)); rw [byA_set, he] at this; exact this, bq_set h.bel _ h.ap.2.2.2 _, h.ap⟩
theorem i64_and_nat (a b : Nat) (ha : a < 9223372036854775808) (hb : b < 9223372036854775808) : bits .and .i64 (a : Int) (b : Int) = ((a &&& b : Nat) : Int) := by
  have hx : a &&& b < 2 ^ 63 := Nat.and_lt_two_pow _ (by omega)
  show IntKind.i64.wrap ((BitVec.ofInt 64 (a : Int) &&& BitVec.ofInt 64 (b : Int)).toNat : Int) = _
  rw [BitVec.toNat_and, ofInt_i64 a ha, ofInt_i64 b hb, IntKind.wrap_i64]
  omega
theorem and_bb (q L k : Nat) (hq : q ≤ 20000000) : bits BinOp.and IntKind.i64 ((q : Int) / 2 ^ (L - 1 - k)) 1 = (Hf.bb q L k : Int) := by
  have h : q / B.P2 (L - 1 - k) ≤ q := Nat.div_le_self _ _
  rw [div_pow]
  have e := i64_and_nat (q / B.P2 (L - 1 - k)) 1 (by omega) (by omega)
  have e1 : ((1 : Nat) : Int) = 1 := rfl
  rw [e1] at e
  rw [e, Nat.and_one_is_mod]
  rfl
theorem test_yes (q L k : Nat) (hq : q ≤ 20000000) (h : Hf.bb q L k = 1) : (bits BinOp.and IntKind.i64 ((q : Int) / 2 ^ (L - 1 - k)) 1 == 1) = true := by rw [and_bb q L k hq, h]; rfl
theorem test_no (q L k : Nat) (hq : q ≤ 20000000) (h : Hf.bb q L k = 0) : (bits BinOp.and IntKind.i64 ((q : Int) / 2 ^ (L - 1 - k)) 1 == 1) = false := by rw [and_bb q L k hq, h]; rfl
theorem or_store (v j : Nat) (hv : v < 256) (hj : j < 8) : bits BinOp.or IntKind.u8 (v : Int) (2 ^ j % 256) = ((UInt8.ofNat (v ||| B.P2 j)).toNat : Int) := by
  have hp : B.P2 j ≤ 128 := B.P2_le (b := 7) (by omega)
  have hx : v ||| B.P2 j < 256 := Nat.or_lt_two_pow (n := 8) (by omega) (by omega)
  rw [P2_cast, show ((B.P2 j : Nat) : Int) % 256 = ((B.P2 j : Nat) : Int) by omega, u8_or_nat v (B.P2 j) hv (by omega), Hf.ofNat_toNat _ hx]
theorem bt_back (q L m : Nat) (s : ByteArray) (hm : m < L) (hL : L ≤ 15) : bt (bs (Hf.lb (Hf.VV q L L)) ++ s) m = some (q / B.P2 (L - 1 - m) % 2) := by
  have hV : Hf.VV q L L < 65536 := Nat.lt_of_lt_of_le (Hf.VV_lt q L L) (B.P2_le (b := 16) (by omega))
  have hlen : m / 8 < (Hf.lb (Hf.VV q L L)).length := by rw [Hf.lb_len]; omega
  have hsz : (bs (Hf.lb (Hf.VV q L L)) ++ s).size = 2 + s.size := by rw [ByteArray.size_append, bs_size, Hf.lb_len]
  rw [bt_some _ _ (by rw [hsz]; omega)]
  have e : (bs (Hf.lb (Hf.VV q L L)) ++ s).data.toList = Hf.lb (Hf.VV q L L) ++ s.data.toList := by
    rw [ByteArray.data_append]; simp [bs]
  unfold btv
  rw [e, List.getD_eq_getElem?_getD, List.getElem?_append_left hlen, List.getElem?_eq_getElem hlen]
  simp only [Option.getD_some]
  rw [Hf.lb_bit _ m hV (by omega) hlen, Hf.VV_bit q L L m hm]
  rfl
def PfRel (zs : List Int) (w : World) (b4 : Nat) (i : Value) (wr : World) : Prop := ∃ k : Nat, k ≤ zs.length ∧ i = .int .i64 k ∧ Blk wr b4 (intA (Hf.cd zs) zs.length) 3 ∧ Below w.heap.size w wr
theorem pre_no (q r d : Nat) (h : q / B.P2 d ≠ r) : ((q : Int) / 2 ^ d == (r : Int)) = false := by
  rw [div_pow, beq_eq_false_iff_ne]
  intro e
  exact h (Int.ofNat.inj e)
def LaRel (zs : List Int) (w : World) (b1 b2 b4 b7 q L : Nat) (i : Value) (wr : World) : Prop := ∃ k : Nat, k ≤ L ∧ i = .int .i64 k ∧ Lain zs w b1 b2 b4 b7 (Hf.VV q L k) wr
set_option maxHeartbeats 4000000 in
set_option maxRecDepth 100000 in
theorem back_told (zs : List Int) (a : Option Addr) (b o c n : Nat) (s : ByteArray) (w : World) (hs : s.size ≤ 100) (ha : Hid (Ints w zs a b o)) (he : Hid (errN zs = 0)) (hn : n < zs.length) (hz : Hid (0 < zs[n])) :
    Calls Try.prog 6 #[.slice a zs.length c, .int .i64 n, .string s] w fun e w' => e = .returned (.bool true) ∧ Below w.heap.size w w' := by
  obtain ⟨hl, hR, hT⟩ := errN_ok he.out
  have HN := Lib.hid (new_ok zs a b o c w ha he.out)
  have HC := Lib.hid (fun W (h : Below w.heap.size w W) => codes_ok zs a b o c W (Lib.hid (ha.out.keep h)) he.out)
  obtain ⟨rfl, _, _, _⟩ := ha.out.at (bq_refl w) n hn
  obtain ⟨L, hL⟩ : ∃ L : Nat, zs[n] = (L : Int) := ⟨zs[n].toNat, by have := hz.out; omega⟩
  have hL1 : 1 ≤ L := by have := hz.out; omega
  have hL2 : L ≤ 15 := by have := (hR n hn).2; omega
  have HA := Lib.hid (fun W (h : Below w.heap.size w W) => (ha.out.at h n hn).2.2.2)
  rw [hL] at HA
  have HLN := Lib.hid hL
  have HIN := Lib.hid hR
  have HTB := Lib.hid hT
  clear he hR hT hz hL
  go_enter Try.func6, Try.ntmps6
  go_upto_region 2 with (first
    | (go_at_call 9; refine HN.out.mono ?_; rintro e w1 ⟨b1, l1, hb1, rfl, hbel1⟩)
    | (refine wl_alloc 27 _ zero27 rfl rfl ?_; intro W2 b2 B2 l2 k2)
    | (refine wl_store 27 17 size27 _ _ rfl rfl _ rfl _ rfl _ _ B2 (tabA_size _ _ _) (tabA_size _ _ _) (tabA_one _ _ _) ?_; intro W3 hB3 hT3))
  have z1 := hbel1.size
  have z2 := hb1.lt
  have C1 := hT3.blk (hb1.keep k2) (by omega)
  have HK3 := Lib.hid (hT3.below (bq_trans hbel1 k2) (by omega))
  clear hT3 B2 l2 k2 hb1 HN hbel1 l1 z1 z2
  go_wp2_with (first
    | (go_at_call 10; refine (HC.out _ HK3.out).mono ?_; rintro e w4 ⟨b4, l4, hb4, rfl, hbel4⟩; have hcell := HA.out w4 (bq_trans HK3.out hbel4))
    | (refine wl_bytes _ _ rfl rfl 2 rfl rfl (by omega) ?_; intro W7 b7 B7 l7 k7))
  have z1 := C1.lt
  have z2 := hB3.lt
  have z3 := hb4.lt
  have z4 := hbel4.size
  have z5 := HK3.out.size
  have HLA : Hid (Lain zs w b1 b2 b4 b7 0 W7) := Lib.hid ⟨(C1.keep hbel4).keep k7, (hB3.keep hbel4).keep k7, hb4.keep k7, B7, bq_trans (bq_trans HK3.out hbel4) k7, by omega, by omega, by omega, by omega⟩
  obtain ⟨q, hq⟩ : ∃ q, q = Hf.cd zs n := ⟨_, rfl⟩
  have HQ := Lib.hid hq
  have hqb : q ≤ 20000000 := by
    rcases cd_bd zs hl n with h | h
    · omega
    · rw [Hf.getD_eq zs n hn, HLN.out, Int.toNat_natCast] at h
      omega
  clear C1 hB3 hb4 hbel4 HK3 B7 l7 k7 hcell l4 z1 z2 z3 z4 z5 HC hq
  go_loopw [12] (fun i wr => LaRel zs w b1 b2 b4 b7 q L i wr) (fun i _ => L - (intOf i).toNat)
  case atStart => exact ⟨0, by omega, rfl, HLA.out⟩
  case round =>
    clear HLA
    obtain ⟨k, hk, rfl, hla⟩ := hrel
    have HLA := Lib.hid hla
    have hck := HA.out wr hla.bel
    by_cases hlt : k < L
    · have hcc := (hla.cod.cell n).trans (intA_at _ _ n hn)
      rw [← HQ.out] at hcc
      clear hla
      by_cases c1 : Hf.bb q L k = 1
      · have t1 := test_yes q L k hqb c1
        have HV := Lib.hid (Hf.VV_one q L k c1)
        clear c1
        go_wp2_with fail
        go_quiet (fail)
        go_wp2_with fail
        have hla := HLA.out.drewN nq
        generalize wr.drewN nq = w5 at hla ⊢
        clear t1 hck hcc HLA
        have hlen : k / 8 < (Hf.lb (Hf.VV q L k)).length := by rw [Hf.lb_len]; omega
        have hby := (hla.byt.cell (k / 8)).trans (byA_at _ (k / 8) hlen)
        have hbf := hla.byt.frozen (k / 8)
        have HLA := Lib.hid hla
        have hlt255 := (Hf.lb (Hf.VV q L k))[k / 8].toNat_lt
        obtain ⟨v, hv⟩ : ∃ v, v = (Hf.lb (Hf.VV q L k))[k / 8].toNat := ⟨_, rfl⟩
        rw [← hv] at hby hlt255
        have HVV := Lib.hid hv
        have HOR := Lib.hid (or_store v (k % 8) hlt255 (by omega))
        have hset := Hf.lb_or (Hf.VV q L k) k (by omega) (Hf.VV_lt q L k) hlen
        rw [← hv, ← HV.out] at hset
        have HL3 := Lib.hid ((HLA.out.set (k / 8) (UInt8.ofNat (v ||| B.P2 (k % 8))) (Hf.VV q L (k + 1)) hset).drew)
        clear hv hla hset
        go_region
        rw [HOR.out]
        have hl3 := HL3.out
        clear HL3 HOR HVV HLA hby hbf HV
        generalize (w5.setCell ⟨b7, k / 8, none⟩ (.int .u8 ((UInt8.ofNat (v ||| B.P2 (k % 8))).toNat : Int))).drew = w8 at hl3 ⊢
        have HL8 := Lib.hid hl3
        clear hl3
        go_wp2
        go_roundw
        case rel => exact ⟨k + 1, by omega, by go_num, HL8.out⟩
        case measure => simp [intOf]; omega
      · have t1 := test_no q L k hqb (by have := Hf.bb_lt q L k; omega)
        have HV := Lib.hid (Hf.VV_zero q L k (by have := Hf.bb_lt q L k; omega))
        clear c1
        go_wp2_with fail
        go_quiet (fail)
        go_wp2
        go_roundw
        case rel => exact ⟨k + 1, by omega, by go_num, by rw [HV.out]; exact HLA.out.drewN _⟩
        case measure => simp [intOf]; omega
    · obtain rfl : k = L := by omega
      clear hlt hk
      have hconv := blk_str hla.byt 2
      rw [Hf.lb_len] at hconv
      have hsz : (bs (Hf.lb (Hf.VV q k k)) ++ s).size = 2 + s.size := by rw [ByteArray.size_append, bs_size, Hf.lb_len]
      have htn : zs[n].toNat = k := by rw [HLN.out]; rfl
      have hnx := Hf.nx_back zs HTB.out (fun m => bt (bs (Hf.lb (Hf.VV q k k)) ++ s) (((0 : Int).toNat) + m)) n hn (by rw [HLN.out]; omega) (by rw [HLN.out]; omega) (fun m hm => by
        rw [htn] at hm
        rw [htn, ← HQ.out]
        show bt _ (0 + m) = _
        rw [Nat.zero_add]
        exact bt_back q k m s hm hL2)
      rw [htn] at hnx
      have HX := next_any zs (bs (Hf.lb (Hf.VV q k k)) ++ s) 0 b1 wr (by omega) (by omega) hl hla.sym
      have hr : nxR zs (bs (Hf.lb (Hf.VV q k k)) ++ s) 0 = .tuple #[.int .i64 (n : Int), .int .i64 (k : Int), .int .i64 0] := by
        unfold nxR
        rw [if_neg (by omega), hnx, nxV_0]
        simp
      rw [hr] at HX
      have HX2 := Lib.hid HX
      have htab := hla.tab
      have HCO := Lib.hid hla.cod
      have HBE := Lib.hid hla.bel
      obtain ⟨s1, hs1⟩ : ∃ s1, s1 = bs (Hf.lb (Hf.VV q k k)) := ⟨_, rfl⟩
      have hs1b : s1.size ≤ 2 := by rw [hs1, bs_size, Hf.lb_len]; omega
      rw [← hs1] at hconv HX2
      clear HX hr hnx HLA htn hla hs1 hsz
      go_upto_region 14 with (first
        | (refine wl_load 27 17 _ Try.underlying27 rfl size27 _ rfl rfl _ rfl _ _ htab (tabA_size _ _ _) ?_)
        | (go_at_call 13; refine HX2.out.mono ?_; rintro e w6 ⟨rfl, hb6⟩))
      have HBE6 := Lib.hid (bq_trans HBE.out hb6)
      have HCO6 := Lib.hid (HCO.out.keep hb6)
      have hc6 := HA.out w6 HBE6.out
      clear hb6 HBE HCO hconv HX2 htab hck
      go_wp2_with fail
      clear hc6
      go_loopw [140] (fun i wr => PfRel zs w b4 i wr) (fun i _ => zs.length - (intOf i).toNat)
      case atStart => exact ⟨0, by omega, rfl, HCO6.out, HBE6.out⟩
      case round =>
        clear HBE6 HCO6
        obtain ⟨j, hj, rfl, hco, hbe⟩ := hrel
        have HB := Lib.hid hbe
        have hcn := HA.out wr hbe
        by_cases hjl : j < zs.length
        · have hcj := (ha.out.at hbe j hjl).2.2.2
          have hqn := (hco.cell n).trans (intA_at _ _ n hn)
          have hqj := (hco.cell j).trans (intA_at _ _ j hjl)
          have hin := HIN.out j hjl
          have HCO := Lib.hid hco
          clear hbe hco
          rw [← HQ.out] at hqn
          by_cases c1 : j = n
          · have d1 : ((j : Int) != (n : Int)) = false := by rw [c1]; simp
            have d1n : (j != n) = false := by rw [c1]; simp
            clear c1 hcj hqj hin
            go_wp2_with fail
            go_quiet (fail)
            go_wp2
            go_roundw
            case rel => exact ⟨j + 1, by omega, by go_num, HCO.out.drewN _, bq_drewN HB.out _⟩
            case measure => simp [intOf]; omega
          · have d1 : ((j : Int) != (n : Int)) = true := by rw [bne_iff_ne]; omega
            have d1n : (j != n) = true := by rw [bne_iff_ne]; exact c1
            obtain ⟨m, hm⟩ : ∃ m : Nat, zs[j] = (m : Int) := ⟨zs[j].toNat, by omega⟩
            rw [hm] at hcj
            have hm15 : m ≤ 15 := by omega
            by_cases c2 : k ≤ m
            · have d2 : decide (k ≤ m) = true := by simp; omega
              have hnp := Hf.no_prefix zs j n hjl hn c1 (by rw [HLN.out]; omega) (by rw [HLN.out, hm]; omega)
              rw [HLN.out, hm, show ((m : Int) - (k : Int)).toNat = m - k by omega, ← HQ.out] at hnp
              obtain ⟨r, hr⟩ : ∃ r, r = Hf.cd zs j := ⟨_, rfl⟩
              rw [← hr] at hnp hqj
              have d3 := pre_no r q (m - k) hnp
              clear hnp hr c1 hm hin
              go_wp2_with fail
              go_quiet (fail)
              go_wp2
              go_roundw
              case rel => exact ⟨j + 1, by omega, by go_num, HCO.out.drewN _, bq_drewN HB.out _⟩
              case measure => simp [intOf]; omega
            · have d2 : decide (k ≤ m) = false := by simp; omega
              clear c1 hm hin hqj
              go_wp2_with fail
              go_quiet (fail)
              go_wp2
              go_roundw
              case rel => exact ⟨j + 1, by omega, by go_num, HCO.out.drewN _, bq_drewN HB.out _⟩
              case measure => simp [intOf]; omega
        · obtain rfl : j = zs.length := by omega
          clear hco hbe hcn
          go_wp2_with (go_at_call 8; refine (awake_any _).mono ?_; rintro e w9 ⟨rfl, hb9⟩)
          go_ret
          exact ⟨rfl, bq_trans HB.out hb9⟩
end Go.Proofs.Ytgflnkkhcapkmaa
