import Derived.Test.YtddiccdfeckgaaaDoorZF
import Derived.Laws.BytesArg
import Derived.Test.YtddiccdfeckgaaaDoorZG
/- Layer 5: Raw. -/
namespace Go.Proofs.YtddiccdfeckgaaaDoor
open Go.RowKit
set_option maxRecDepth 100000
set_option linter.unusedVariables false
set_option linter.unusedSimpArgs false
theorem isRoom_yes (m : Int) (w : World) (h0 : 0 ≤ m) (h1 : m ≤ 262144) : Calls Tryd.prog 15 #[.int .i64 m] w fun e w' => e = .returned (.bool true) ∧ w = w' := by
  go_enter Tryd.func15, Tryd.ntmps15
  go_wp2
  go_ret
  exact ⟨by simp [h0, h1], rfl⟩
theorem isRoom_no (m : Int) (w : World) (h : m < 0 ∨ 262144 < m) : Calls Tryd.prog 15 #[.int .i64 m] w fun e w' => e = .returned (.bool false) ∧ w = w' := by
  rcases h with h | h
  · have q : decide (0 ≤ m) = false := by rw [decide_eq_false_iff_not]; omega
    go_enter Tryd.func15, Tryd.ntmps15
    go_wp2
    go_ret
    exact ⟨rfl, rfl⟩
  · have q : decide (0 ≤ m) = true := by rw [decide_eq_true_iff]; omega
    have q2 : decide (m ≤ 262144) = false := by rw [decide_eq_false_iff_not]; omega
    go_enter Tryd.func15, Tryd.ntmps15
    go_wp2
    go_ret
    exact ⟨rfl, rfl⟩
theorem upA_size (s : ByteArray) (p most : Nat) (sl : Value) (F : Array Value) (h : F.size = 34) : (upA s p most sl F).size = 38 := by unfold upA; rw [Array.size_append, h]; rfl
theorem upA_one (s : ByteArray) (p most : Nat) (F : Array Value) (h : F.all (·.oneCell') = true) : (upA s p most (.slice none 0 0) F).all (·.oneCell') = true := by
  unfold upA
  rw [Array.all_append, h]
  simp [Value.oneCell']
def es : ByteArray := ⟨#[]⟩
theorem size50 : (Tryd.prog.info? 48).map (·.size) = some 38 := by kernel_rfl
theorem zero50 (w : World) : (zeroValue 48).run Tryd.prog w = .ok (.agg (upA es 0 0 (.slice none 0 0) zeroC)) w := Tryd.zeroValue48 w
theorem built50 (s : ByteArray) (m : Nat) (a d : List Int) (ga gd : Nat) : Tryd.prog.built 48 [(0, .string s), (2, .int .i64 (m : Int)), (4, .agg (cdV a d ga gd))] = some (upA s 0 m (.slice none 0 0) (cdV a d ga gd)) := by kernel_rfl
theorem U.str {w : World} {B b : Nat} {s : ByteArray} {p most : Nat} {sl : Value} {out : List UInt8} {F : Array Value} (h : U w B b s p most sl out F) : (convert 36 9 sl).run Tryd.prog w = .ok (.string (bs out)) w := by
  rcases h.own.2 with ⟨rfl, h0⟩ | ⟨g, cap, cur, rfl, _, _, h3, _⟩
  · have : out = [] := List.eq_nil_of_length_eq_zero h0
    subst this
    exact run_convert_bytes_nil (P := Tryd.prog) w 36 5 Tryd.underlying36 Tryd.underlying5 0 0 9 Tryd.underlying9
  · refine run_convert_bytes_back (P := Tryd.prog) w 36 9 5 ⟨g, 0, none⟩ cap out Tryd.underlying36 Tryd.underlying5 Tryd.underlying9 (fun j hj => ?_)
    exact h.own.cells (g := g) rfl j _ (byL_at out j hj)
theorem Gl.four {w : World} (h : Gl w) : 4 ≤ w.heap.size := by
  have := block_lt_of_cell (h.rpt 0 (by omega)).1
  simp at this
  omega
/-- what Raw tells, as values -/
def rawT (o : List UInt8) (n e : Nat) : Value := .tuple #[.string (bs o), .int .i64 (n : Int), .int .i64 (e : Int)]
def rawR (s : ByteArray) (most : Int) : Value := match I.raw s most with | .error e => rawT [] 0 e | .ok (o, n) => rawT o n 0
def rawV (R : Except Nat (Nat × List UInt8)) : Value := match R with | .error e => rawT [] 0 e | .ok (p, o) => rawT o ((p + 7) / 8) 0
theorem rawR_eq (s : ByteArray) (m : Nat) (h : m ≤ 262144) : rawR s (m : Int) = rawV (I.blocks s m 0 []) := by
  unfold rawR I.raw
  rw [if_neg (by omega), Int.toNat_natCast]
  cases I.blocks s m 0 [] <;> rfl
def rwE (l : Bool) (s : ByteArray) (m p : Nat) (o : List UInt8) : Except Nat (Nat × List UInt8) := match l with | false => I.blocks s m p o | true => .ok (p, o)
/-- the unpacker goes on; or the last block has been -/
def RwRel (w : World) (b ga gd : Nat) (s : ByteArray) (most : Nat) (R : Except Nat (Nat × List UInt8)) (t : Value) (wr : World) : Prop :=
  ∃ (l : Bool) (p : Nat) (sl : Value) (o : List UInt8), t = .bool l ∧ U wr w.heap.size b s p most sl o (cdV I.fixA I.fixD ga gd) ∧ Hid (Below w.heap.size w wr) ∧ p ≤ 8 * s.size ∧ o.length ≤ most ∧ Tb wr I.fixA ga ∧ Tb wr I.fixD gd ∧ (ga ≠ b ∧ sl.ownBlock ≠ some ga) ∧ (gd ≠ b ∧ sl.ownBlock ≠ some gd) ∧
    Hid (R = rwE l s most p o)
theorem Kp.farG {b g : Nat} {sl sl' : Value} {w w' : World} (k : Kp b sl w w' sl') (hf : g ≠ b ∧ sl.ownBlock ≠ some g) (hg : g < w.heap.size) : g ≠ b ∧ sl'.ownBlock ≠ some g := ⟨hf.1, fun e => by
  rcases k.own with h | h
  · rw [h] at e; exact hf.2 e
  · have := h g e; omega⟩
set_option maxHeartbeats 1000000 in
set_option maxRecDepth 100000 in
theorem raw_any (s : ByteArray) (most : Int) (w : World) (hs : s.size ≤ 1048576) (hg : Gl w) :
    Calls Tryd.prog 8 #[.string s, .int .i64 most] w fun e w' => e = .returned (rawR s most) ∧ Below w.heap.size w w' := by
  by_cases hm : most < 0 ∨ 262144 < most
  · have hR : rawR s most = rawT [] 0 1 := by unfold rawR I.raw; rw [if_pos hm]
    rw [hR]
    have HM := Lib.hid hm
    clear hm hR hg
    go_enter Tryd.func8, Tryd.ntmps8
    go_wp2_with (go_at_call 15; refine (isRoom_no most _ HM.out).mono ?_; rintro e w' ⟨rfl, rfl⟩)
    go_ret3
    exact ⟨rfl, bq_refl _⟩
  · obtain ⟨m, rfl⟩ : ∃ m : Nat, most = (m : Int) := ⟨most.toNat, by omega⟩
    have hm2 : m ≤ 262144 := by omega
    have h4 := hg.four
    obtain ⟨R, hRe⟩ : ∃ R, R = I.blocks s m 0 [] := ⟨_, rfl⟩
    have hR : rawR s (m : Int) = rawV R := by rw [hRe]; exact rawR_eq s m hm2
    have HR := Lib.hid hR
    have HRE := Lib.hid hRe
    have HG := Lib.hid hg
    obtain ⟨V, hV⟩ : ∃ V, V = rawR s (m : Int) := ⟨_, rfl⟩
    rw [← hV] at HR ⊢
    clear hm hR hRe hg hV
    go_enter Tryd.func8, Tryd.ntmps8
    go_upto_region 4 with (first
      | (go_at_call 15; refine (isRoom_yes (m : Int) _ (by omega) (by omega)).mono ?_; rintro e w' ⟨rfl, rfl⟩)
      | (go_at_call 16; refine (fixed_any _).mono ?_; rintro e w2 ⟨ga, gd, lga, lgd, ta, td, rfl, hb2⟩)
      | (refine wlg_build 48 _ _ (built50 s m I.fixA I.fixD ga gd) _ rfl rfl rfl ?_)
      | (refine wl_alloc 48 _ zero50 rfl rfl ?_; intro W3 b3 B3 l3 k3)
      | (refine wl_store 48 38 size50 _ _ rfl rfl b3 rfl (upA s 0 m (.slice none 0 0) (cdV I.fixA I.fixD ga gd)) rfl _ _ B3 (upA_size _ _ _ _ _ zeroC_size) (upA_size _ _ _ _ _ (cdV_size _ _ _ _)) (upA_one _ _ _ _ (cdV_one _ _ _ _)) ?_; intro W4 hB4 hT4))
    have s2 := hb2.size
    have y1 := ta.1.lt
    have y2 := td.1.lt
    have HB4 := Lib.hid (hT4.below (bq_trans hb2 k3) (by omega))
    have TA4 : Tb W4 I.fixA ga := ⟨hT4.blk (ta.1.keep k3) (by omega), ta.2⟩
    have TD4 : Tb W4 I.fixD gd := ⟨hT4.blk (td.1.keep k3) (by omega), td.2⟩
    have HU4 : Hid (U W4 w.heap.size b3 s 0 m (.slice none 0 0) [] (cdV I.fixA I.fixD ga gd)) := Lib.hid ⟨hB4, World.ownsRow_nil _ _ _ _, (by simp [Value.ownBlock]), (by omega), h4, HG.out.keep HB4.out h4⟩
    have HST : Hid (RwRel w b3 ga gd s m R (.bool false) W4) := Lib.hid ⟨false, 0, _, [], rfl, HU4.out, HB4, Nat.zero_le _, Nat.zero_le _, TA4, TD4, ⟨by omega, by simp [Value.ownBlock]⟩, ⟨by omega, by simp [Value.ownBlock]⟩, HRE⟩
    clear ta td hb2 B3 l3 k3 hB4 hT4 TA4 TD4 HU4 HB4 HG HRE s2 y1 y2 lga lgd
    go_wp2
    go_loopw [8, 9] (fun t _ wr => RwRel w b3 ga gd s m R t wr) (fun _ _ wr => 8 * s.size - atOf wr b3)
    case atStart => exact HST.out
    case round =>
      obtain ⟨l, p, sl, o, rfl, hu, hbl, hp, ho, ta, td, fa, fd, hrr⟩ := hrel
      clear HST
      have HU := Lib.hid hu
      have HAT := Lib.hid hu.atOf
      cases l with
      | false =>
        have hr0 : R = I.blocks s m p o := hrr.out
        have HC := Lib.hid (block_any hs rfl hu hp hm2 ho ta td fa fd)
        cases h1 : I.block s m p o with
        | error e1 =>
          rw [h1] at HC
          have HE : Hid (V = rawT [] 0 e1) := Lib.hid (by rw [HR.out, hr0, I.blocks_err h1]; rfl)
          clear hu ho ta td fa fd hrr hr0 h1 hp HAT
          go_upto_region 8 with (go_at_call 17; refine HC.out.mono ?_; rintro e w5 ⟨⟨t5, rfl⟩, n0, hb5⟩)
          have q0 : ((e1 : Int) != 0) = true := by rw [bne_iff_ne]; omega
          go_wp2
          go_ret3
          exact ⟨by rw [HE.out]; rfl, hbl.out.trans hb5⟩
        | ok r =>
          obtain ⟨l2, q, o2⟩ := r
          rw [h1] at HC
          have a1 := I.block_lt h1 ho
          have HE : Hid (R = rwE l2 s m q o2) := Lib.hid (by
            rw [hr0]
            cases l2 with
            | false => exact I.blocks_more h1 ho
            | true => exact I.blocks_end h1)
          have HX := Lib.hid (⟨ta, td, fa, fd, a1⟩ : Tb wr I.fixA ga ∧ Tb wr I.fixD gd ∧ (ga ≠ b3 ∧ sl.ownBlock ≠ some ga) ∧ (gd ≠ b3 ∧ sl.ownBlock ≠ some gd) ∧ p < q ∧ q ≤ 8 * s.size ∧ o2.length ≤ m)
          clear hu ho ta td fa fd hrr hr0 h1 hp a1
          go_wp2_with (go_at_call 17; refine HC.out.mono ?_; rintro e w5 ⟨rfl, sl5, hu5, hk5⟩)
          obtain ⟨ta, td, fa, fd, a1, a2, a3⟩ := HX.out
          go_roundw
          case rel => exact ⟨l2, q, sl5, o2, rfl, hu5, Lib.hid (hbl.out.trans (hk5.belowU HU.out)), a2, a3, hk5.tb ta fa.1 fa.2, hk5.tb td fd.1 fd.2, hk5.farG fa ta.1.lt, hk5.farG fd td.1.lt, HE⟩
          case measure => rw [hu5.atOf, HAT.out]; omega
      | true =>
        have hr0 : R = .ok (p, o) := hrr.out
        have HE : Hid (V = rawT o ((p + 7) / 8) 0) := Lib.hid (by rw [HR.out, hr0]; rfl)
        have HA := Lib.hid (align_any hu (by omega))
        clear hu ho ta td fa fd hrr hr0 HAT
        go_upto_region 11 with (go_at_call 18; refine HA.out.mono ?_; rintro e w5 ⟨rfl, hu5, hk5⟩)
        have c1 := hu5.c1
        have c3 := hu5.c3
        have hcv : ∀ n, (convert 36 9 sl).run Tryd.prog (w5.drewN n) = .ok (.string (bs o)) (w5.drewN n) := fun n => (hu5.drewN n).str
        have hdiv : ((I.al p : Nat) : Int) / 8 = (((p + 7) / 8 : Nat) : Int) := by unfold I.al; omega
        have HB5 := Lib.hid (hbl.out.trans (hk5.belowU HU.out))
        have hal : I.al p ≤ 8388608 := by unfold I.al; omega
        generalize I.al p = A at *
        generalize (p + 7) / 8 = D at *
        have HD := Lib.hid hdiv
        clear hdiv hu5 hk5 HU HA
        go_quiet (fail)
        go_wp2
        go_ret3
        exact ⟨by rw [HE.out]; unfold rawT; rw [← HD.out]; rfl, HB5.out.trans (bq_drewN (bq_refl w5) nq |>.mono HB5.out.size)⟩
end Go.Proofs.YtddiccdfeckgaaaDoor
/- Layer 5: the first two bytes of a wrapping, the sum behind. -/
namespace Go.Proofs.YtddiccdfeckgaaaDoor
open Go.RowKit
set_option maxRecDepth 100000
set_option linter.unusedVariables false
set_option linter.unusedSimpArgs false
/-- the first two bytes of a wrapping -/
def I.hd (a b : Nat) : Bool := a % 16 == 8 && decide (a / 16 ≤ 7) && (256 * a + b) % 31 == 0 && b / 32 % 2 == 0
theorem or8 (a b : Nat) (hb : b < 256) : (a * 256) ||| b = a * 256 + b := by
  have := Nat.shiftLeft_add_eq_or_of_lt (i := 8) (b := b) (by omega) a
  rw [Nat.shiftLeft_eq, show (2 : Nat) ^ 8 = 256 by decide] at this
  exact this.symm
theorem i64_and_nat (a b : Nat) (ha : a < 9223372036854775808) (hb : b < 9223372036854775808) : bits .and .i64 (a : Int) (b : Int) = ((a &&& b : Nat) : Int) := by
  have hx : a &&& b ≤ a := Nat.and_le_left
  show IntKind.i64.wrap ((BitVec.ofInt 64 (a : Int) &&& BitVec.ofInt 64 (b : Int)).toNat : Int) = _
  rw [BitVec.toNat_and, ofInt_i64 a ha, ofInt_i64 b hb, IntKind.wrap_i64]
  omega
theorem and15 (a : Nat) (h : a < 256) : bits .and .i64 (a : Int) 15 = ((a % 16 : Nat) : Int) := by
  have e := i64_and_nat a 15 (by omega) (by omega)
  rw [show a &&& 15 = a % 16 from Nat.and_two_pow_sub_one_eq_mod a 4] at e
  exact e
theorem and32 (b : Nat) (h : b < 256) : bits .and .i64 (b : Int) 32 = ((32 * (b / 32 % 2) : Nat) : Int) := by
  have e := i64_and_nat b 32 (by omega) (by omega)
  have e2 : b &&& 32 = 32 * (b / 32 % 2) := by
    have : ∀ b : Fin 256, (b : Nat) &&& 32 = 32 * ((b : Nat) / 32 % 2) := by decide +kernel
    exact this ⟨b, h⟩
  rw [e2] at e
  exact e
theorem or256 (a b : Nat) (ha : a < 1099511627776) (hb : b < 256) : bits .or .i64 ((a : Int) * 256) (b : Int) = ((256 * a + b : Nat) : Int) := by
  have e := i64_or_nat (a * 256) b (by omega) (by omega)
  rw [or8 a b hb] at e
  rw [show (a : Int) * 256 = ((a * 256 : Nat) : Int) by omega, e]
  congr 1; omega
theorem isHead_any (a b : Nat) (w : World) (ha : a < 256) (hb : b < 256) : Calls Tryd.prog 24 #[.int .i64 (a : Int), .int .i64 (b : Int)] w fun e w' => e = .returned (.bool (I.hd a b)) ∧ w = w' := by
  have e1 := and15 a ha
  have e4 := and32 b hb
  have e3 := or256 a b (by omega) hb
  obtain ⟨H, hH⟩ : ∃ H, H = I.hd a b := ⟨_, rfl⟩
  rw [← hH]
  unfold I.hd at hH
  generalize hx1 : a % 16 = x1 at *
  generalize hx3 : 256 * a + b = x3 at *
  generalize hx4 : 32 * (b / 32 % 2) = x4 at *
  have b1 : x1 < 16 := by omega
  have b3 : x3 < 70000 := by omega
  have HH := Lib.hid hH
  have HX := Lib.hid (And.intro hx1 (And.intro hx3 hx4))
  clear hx1 hx3 hx4 hH
  go_enter Tryd.func24, Tryd.ntmps24
  go_wp2
  all_goals
    go_ret
    refine ⟨ret_bool ?_, rfl⟩
    rw [HH.out, Bool.eq_iff_iff]
    obtain ⟨h1, h3, h4⟩ := HX.out
    simp only [Bool.and_eq_true, beq_iff_eq, decide_eq_true_eq, Bool.false_eq_true, false_iff]
    omega
/-- a byte, as a number -/
def I.byt (t : ByteArray) (k : Nat) : Nat := if h : k < t.size then t[k].toNat else 0
theorem I.byt_lt (t : ByteArray) (k : Nat) : I.byt t k < 256 := by
  unfold I.byt
  split
  · exact t[k].toNat_lt
  · omega
theorem I.byt_at (t : ByteArray) (k : Nat) (h : k < t.size) : I.byt t k = t[k].toNat := by unfold I.byt; rw [dif_pos h]
/-- the number of the first k bytes, the first one the highest -/
def I.be (t : ByteArray) : Nat → Nat
  | 0 => 0
  | k + 1 => 256 * I.be t k + I.byt t k
theorem I.be_lt (t : ByteArray) : ∀ k, k ≤ 4 → I.be t k < 4294967296 := by
  have h1 : I.be t 1 < 256 := by have := I.byt_lt t 0; simp only [I.be]; omega
  have h2 : I.be t 2 < 65536 := by have := I.byt_lt t 1; rw [I.be]; omega
  have h3 : I.be t 3 < 16777216 := by have := I.byt_lt t 2; rw [I.be]; omega
  have h4 : I.be t 4 < 4294967296 := by have := I.byt_lt t 3; rw [I.be]; omega
  intro k hk
  have : k = 0 ∨ k = 1 ∨ k = 2 ∨ k = 3 ∨ k = 4 := by omega
  rcases this with rfl | rfl | rfl | rfl | rfl
  · show 0 < 4294967296; omega
  all_goals omega
/-- the error of what stands behind the packed bytes -/
def I.cl (t : ByteArray) (sum : Nat) : Nat := if t.size < 4 then 2 else if I.be t 4 ≠ sum then 5 else if 4 < t.size then 3 else 0
def ClRel (t : ByteArray) (v i : Value) : Prop := ∃ k : Nat, k ≤ 4 ∧ i = .int .i64 (k : Int) ∧ v = .int .i64 (I.be t k : Int)
set_option maxHeartbeats 1000000 in
theorem closes_any (t : ByteArray) (sum : Nat) (w : World) (ht : t.size ≤ 4194304) (hs : sum < 4294967296) :
    Calls Tryd.prog 25 #[.string t, .int .i64 (sum : Int)] w fun e w' => e = .returned (.int .i64 (I.cl t sum : Int)) ∧ w = w' := by
  by_cases c1 : t.size < 4
  · have hR : I.cl t sum = 2 := by unfold I.cl; rw [if_pos c1]
    rw [hR]
    clear hR
    go_enter Tryd.func25, Tryd.ntmps25
    go_wp2
    go_ret
    exact ⟨rfl, rfl⟩
  · obtain ⟨E, hE⟩ : ∃ E, E = I.cl t sum := ⟨_, rfl⟩
    rw [← hE]
    unfold I.cl at hE
    rw [if_neg c1] at hE
    have HE := Lib.hid hE
    have q1 : decide ((t.size : Int) < 4) = false := by rw [decide_eq_false_iff_not]; omega
    clear hE
    go_enter Tryd.func25, Tryd.ntmps25
    go_wp2
    go_loop [5, 10] (fun v i => ClRel t v i) (fun _ i => 4 - (intOf i).toNat)
    case atStart => exact ⟨0, by omega, rfl, rfl⟩
    case round =>
      obtain ⟨k, hk, rfl, rfl⟩ := hrel
      have hb := I.be_lt t k hk
      by_cases hlt : k < 4
      · have hkt : k < t.size := by omega
        have HB : Hid (256 * I.be t k + I.byt t k = I.be t (k + 1)) := Lib.hid rfl
        rw [I.byt_at t k hkt] at HB
        have hc := t[k].toNat_lt
        have e3 := or256 (I.be t k) t[k].toNat (by omega) (by omega)
        rw [HB.out] at e3
        obtain ⟨N, hN⟩ : ∃ N, N = I.be t (k + 1) := ⟨_, rfl⟩
        rw [← hN] at e3 HB
        have HN := Lib.hid hN
        clear hN HB
        generalize I.be t k = M at *
        go_wp2
        go_round
        case rel => exact ⟨k + 1, by omega, by go_num, by rw [← HN.out]⟩
        case measure => simp [intOf]; omega
      · obtain rfl : k = 4 := by omega
        generalize I.be t 4 = M at *
        by_cases hM : M = sum
        · subst hM
          by_cases h4 : 4 < t.size
          · have HF : Hid (E = 3) := Lib.hid (by rw [HE.out, if_neg (fun h => h rfl), if_pos h4])
            go_wp2
            go_ret
            exact ⟨by rw [HF.out]; rfl, rfl⟩
          · have HF : Hid (E = 0) := Lib.hid (by rw [HE.out, if_neg (fun h => h rfl), if_neg h4])
            go_wp2
            go_ret
            exact ⟨by rw [HF.out]; rfl, rfl⟩
        · have HF : Hid (E = 5) := Lib.hid (by rw [HE.out, if_pos hM])
          have q2 : ((M : Int) != (sum : Int)) = true := by rw [bne_iff_ne]; omega
          go_wp2
          go_ret
          exact ⟨by rw [HF.out]; rfl, rfl⟩
end Go.Proofs.YtddiccdfeckgaaaDoor
/- Layer 5: Open. -/
namespace Go.Proofs.YtddiccdfeckgaaaDoor
open Go.RowKit
set_option maxRecDepth 100000
set_option linter.unusedVariables false
set_option linter.unusedSimpArgs false
theorem I.raw_ok {s : ByteArray} {m : Int} {o : List UInt8} {n : Nat} (h : I.raw s m = .ok (o, n)) : 0 ≤ m ∧ m ≤ 262144 ∧ 1 ≤ n ∧ n ≤ s.size ∧ (o.length : Int) ≤ m := by
  unfold I.raw at h
  split at h
  · cases h
  · split at h
    · cases h
    · rename_i p o' h1
      have a1 := I.blocks_lt s m.toNat (8 * s.size) 0 p [] o' (by omega) (Nat.zero_le _) h1
      injection h with h; injection h with e1 e2; subst e1 e2
      omega
theorem I.rep_err {s : ByteArray} {n p e : Nat} {l : List Nat} (h : I.rep s n p l = .error e) : e ≠ 0 := by
  unfold I.rep at h
  split at h
  · cases h
  · split at h
    · injection h with h; omega
    · split at h
      · rename_i h1
        injection h with h; subst h
        have := (I.num_err h1).1
        omega
      · cases h
theorem I.lstep_err {zs : List Int} {s : ByteArray} {all p e : Nat} {l : List Nat} (h : I.lstep zs s all p l = .error e) : e ≠ 0 := by
  unfold I.lstep at h
  split at h
  · rename_i h1
    injection h with h; subst h
    exact (I.sym_err h1).1
  · split at h
    · rename_i h1
      injection h with h; subst h
      exact I.rep_err h1
    · split at h
      · injection h with h; omega
      · cases h
theorem I.lens_er (zs : List Int) (s : ByteArray) (all : Nat) : ∀ (f p e : Nat) (l : List Nat), 8 * s.size - p ≤ f → I.lens zs s all p l = .error e → e ≠ 0 := by
  intro f
  induction f with
  | zero =>
    intro p e l hf h
    rw [I.lens] at h
    split at h
    · cases h
    · split at h
      · rename_i h1
        injection h with h; subst h
        exact I.lstep_err h1
      · rename_i h1
        have a1 := I.lstep_lt h1
        omega
  | succ f ih =>
    intro p e l hf h
    rw [I.lens] at h
    split at h
    · cases h
    · split at h
      · rename_i h1
        injection h with h; subst h
        exact I.lstep_err h1
      · rename_i q m h1
        have a1 := I.lstep_lt h1
        rw [if_pos ⟨a1.1, a1.2.1⟩] at h
        exact ih q e m (by omega) h
theorem I.cnts_err {s : ByteArray} {p e : Nat} (h : I.cnts s p = .error e) : e ≠ 0 := by
  unfold I.cnts at h
  split at h
  · rename_i h1
    injection h with h; subst h
    have := (I.num_err h1).1; omega
  · split at h
    · rename_i h1
      injection h with h; subst h
      have := (I.num_err h1).1; omega
    · split at h
      · rename_i h1
        injection h with h; subst h
        have := (I.num_err h1).1; omega
      · split at h
        · injection h with h; omega
        · cases h
theorem I.own_er {s : ByteArray} {p e : Nat} (h : I.own s p = .error e) : e ≠ 0 := by
  unfold I.own at h
  split at h
  · rename_i h1
    injection h with h; subst h
    exact I.cnts_err h1
  · split at h
    · rename_i h1
      injection h with h; subst h
      exact I.metas_err _ _ _ _ _ h1
    · split at h
      · injection h with h; rw [← h]; assumption
      · split at h
        · rename_i h1
          injection h with h; subst h
          exact I.lens_er _ _ _ _ _ _ _ (Nat.le_refl _) h1
        · split at h
          · injection h with h; omega
          · split at h
            · injection h with h; rw [← h]; assumption
            · split at h
              · injection h with h; rw [← h]; assumption
              · cases h
theorem I.copy_err {d : List Int} {s : ByteArray} {most p k e : Nat} {out : List UInt8} (h : I.copy d s most p out k = .error e) : e ≠ 0 := by
  unfold I.copy at h
  split at h
  · injection h with h; omega
  · split at h
    · rename_i h1
      injection h with h; subst h
      have := (I.num_err h1).1; omega
    · split at h
      · rename_i h1
        injection h with h; subst h
        exact (I.sym_err h1).1
      · split at h
        · injection h with h; omega
        · split at h
          · rename_i h1
            injection h with h; subst h
            have := (I.num_err h1).1; omega
          · split at h
            · injection h with h; omega
            · split at h
              · injection h with h; omega
              · cases h
theorem I.one_err {a d : List Int} {s : ByteArray} {most p e : Nat} {out : List UInt8} (h : I.one a d s most p out = .error e) : e ≠ 0 := by
  unfold I.one at h
  split at h
  · rename_i h1
    injection h with h; subst h
    exact (I.sym_err h1).1
  · split at h
    · split at h
      · cases h
      · injection h with h; omega
    · split at h
      · cases h
      · split at h
        · rename_i h1
          injection h with h; subst h
          exact I.copy_err h1
        · cases h
theorem I.syms_er (a d : List Int) (s : ByteArray) (most : Nat) : ∀ (f p e : Nat) (out : List UInt8), 8 * s.size - p ≤ f → out.length ≤ most → I.syms a d s most p out = .error e → e ≠ 0 := by
  intro f
  induction f with
  | zero =>
    intro p e out hf hm h
    rw [I.syms] at h
    split at h
    · rename_i h1
      injection h with h; subst h
      exact I.one_err h1
    · cases h
    · rename_i h1
      have a1 := I.one_lt h1 hm
      omega
  | succ f ih =>
    intro p e out hf hm h
    rw [I.syms] at h
    split at h
    · rename_i h1
      injection h with h; subst h
      exact I.one_err h1
    · cases h
    · rename_i q o h1
      have a1 := I.one_lt h1 hm
      rw [if_pos ⟨a1.1, a1.2.1⟩] at h
      exact ih q e o (by omega) a1.2.2 h
theorem I.stored_err {s : ByteArray} {most p e : Nat} {out : List UInt8} (h : I.stored s most p out = .error e) : e ≠ 0 := by
  unfold I.stored at h
  split at h
  · rename_i h1
    injection h with h; subst h
    have := (I.num_err h1).1; omega
  · split at h
    · rename_i h1
      injection h with h; subst h
      have := (I.num_err h1).1; omega
    · split at h
      · injection h with h; omega
      · split at h
        · injection h with h; omega
        · split at h
          · injection h with h; omega
          · cases h
theorem I.body_err {s : ByteArray} {most p k e : Nat} {out : List UInt8} (hm : out.length ≤ most) (h : I.body s most p out k = .error e) : e ≠ 0 := by
  unfold I.body at h
  split at h
  · exact I.stored_err h
  · split at h
    · exact I.syms_er _ _ _ _ _ _ _ _ (Nat.le_refl _) hm h
    · split at h
      · split at h
        · rename_i h1
          injection h with h; subst h
          exact I.own_er h1
        · exact I.syms_er _ _ _ _ _ _ _ _ (Nat.le_refl _) hm h
      · injection h with h; omega
theorem I.block_err {s : ByteArray} {most p e : Nat} {out : List UInt8} (hm : out.length ≤ most) (h : I.block s most p out = .error e) : e ≠ 0 := by
  unfold I.block at h
  split at h
  · rename_i h1
    injection h with h; subst h
    have := (I.num_err h1).1; omega
  · split at h
    · rename_i h1
      injection h with h; subst h
      have := (I.num_err h1).1; omega
    · split at h
      · rename_i h1
        injection h with h; subst h
        exact I.body_err hm h1
      · cases h
theorem I.blocks_er (s : ByteArray) (most : Nat) : ∀ (f p e : Nat) (out : List UInt8), 8 * s.size - p ≤ f → out.length ≤ most → I.blocks s most p out = .error e → e ≠ 0 := by
  intro f
  induction f with
  | zero =>
    intro p e out hf hm h
    rw [I.blocks] at h
    split at h
    · rename_i h1
      injection h with h; subst h
      exact I.block_err hm h1
    · cases h
    · rename_i h1
      have a1 := I.block_lt h1 hm
      omega
  | succ f ih =>
    intro p e out hf hm h
    rw [I.blocks] at h
    split at h
    · rename_i h1
      injection h with h; subst h
      exact I.block_err hm h1
    · cases h
    · rename_i q o h1
      have a1 := I.block_lt h1 hm
      rw [if_pos ⟨a1.1, a1.2.1⟩] at h
      exact ih q e o (by omega) a1.2.2 h
theorem I.raw_err {s : ByteArray} {m : Int} {e : Nat} (h : I.raw s m = .error e) : e ≠ 0 := by
  unfold I.raw at h
  split at h
  · injection h with h; omega
  · split at h
    · rename_i h1
      injection h with h; subst h
      exact I.blocks_er s _ _ _ _ [] (Nat.le_refl _) (Nat.zero_le _) h1
    · cases h
/-- the sum of bytes, as a number -/
def I.sm (o : List UInt8) : Nat := (Ad.moI 1 (bs o)).toNat
theorem I.sm_eq (o : List UInt8) : Ad.moI 1 (bs o) = (I.sm o : Int) ∧ I.sm o < 4294967296 := by
  have := Ad.moI_bd 1 (bs o)
  unfold I.sm
  omega
/-- what Open tells -/
def I.opn (s : ByteArray) (m : Int) : Except Nat (List UInt8) :=
  if m < 0 ∨ 262144 < m then .error 1 else
  if s.size < 2 then .error 2 else
  if I.hd (I.byt s 0) (I.byt s 1) = false then .error 3 else
  match I.raw (s.extract 2 s.size) m with
  | .error e => .error e
  | .ok (o, n) => if I.cl ((s.extract 2 s.size).extract n (s.extract 2 s.size).size) (I.sm o) = 0 then .ok o else .error (I.cl ((s.extract 2 s.size).extract n (s.extract 2 s.size).size) (I.sm o))
def opT (o : List UInt8) (e : Nat) : Value := .tuple #[.string (bs o), .int .i64 (e : Int)]
def opV (R : Except Nat (List UInt8)) : Value := match R with | .error e => opT [] e | .ok o => opT o 0
theorem ext_size (s : ByteArray) (k : Nat) : (s.extract k s.size).size = s.size - k := by
  rw [ByteArray.size_extract]; omega
theorem rawR_err {s : ByteArray} {m : Int} {e : Nat} (h : I.raw s m = .error e) : rawR s m = rawT [] 0 e := by unfold rawR; rw [h]
theorem rawR_ok {s : ByteArray} {m : Int} {o : List UInt8} {n : Nat} (h : I.raw s m = .ok (o, n)) : rawR s m = rawT o n 0 := by unfold rawR; rw [h]
set_option maxHeartbeats 1000000 in
set_option maxRecDepth 100000 in
theorem open_any (s : ByteArray) (most : Int) (w : World) (hs : s.size ≤ 1048576) (hg : Gl w) :
    Calls Tryd.prog 10 #[.string s, .int .i64 most] w fun e w' => e = .returned (opV (I.opn s most)) ∧ Below w.heap.size w w' := by
  obtain ⟨V, hV⟩ : ∃ V, V = opV (I.opn s most) := ⟨_, rfl⟩
  rw [← hV]
  unfold I.opn at hV
  have HG := Lib.hid hg
  clear hg
  by_cases hm : most < 0 ∨ 262144 < most
  · rw [if_pos hm] at hV
    have HV := Lib.hid hV
    have HM := Lib.hid hm
    clear hV hm
    go_enter Tryd.func10, Tryd.ntmps10
    go_wp2_with (go_at_call 15; refine (isRoom_no most _ HM.out).mono ?_; rintro e w' ⟨rfl, rfl⟩)
    go_ret2
    exact ⟨by rw [HV.out]; rfl, bq_refl _⟩
  rw [if_neg hm] at hV
  have m0 : 0 ≤ most := by omega
  have m1 : most ≤ 262144 := by omega
  clear hm
  by_cases h2 : s.size < 2
  · rw [if_pos h2] at hV
    have HV := Lib.hid hV
    clear hV
    go_enter Tryd.func10, Tryd.ntmps10
    go_wp2_with (go_at_call 15; refine (isRoom_yes most _ (by omega) (by omega)).mono ?_; rintro e w' ⟨rfl, rfl⟩)
    go_ret2
    exact ⟨by rw [HV.out]; rfl, bq_refl _⟩
  rw [if_neg h2] at hV
  have s0 : 0 < s.size := by omega
  have s1 : 1 < s.size := by omega
  have s2 : 2 ≤ s.size := by omega
  have i1 : (1 : Int) < (s.size : Int) := by omega
  have i2 : (1 : Int) ≤ (s.size : Int) := by omega
  have v0 : IntKind.i64.wrap (s[0].toNat : Int) = (s[0].toNat : Int) := by have := s[0].toNat_lt; exact i64_wrap _ (by omega) (by omega)
  have v1 : IntKind.i64.wrap (s[1].toNat : Int) = (s[1].toNat : Int) := by have := s[1].toNat_lt; exact i64_wrap _ (by omega) (by omega)
  have q1 : decide ((s.size : Int) < 2) = false := by rw [decide_eq_false_iff_not]; omega
  have hh := fun W => isHead_any s[0].toNat s[1].toNat W s[0].toNat_lt s[1].toNat_lt
  rw [I.byt_at s 0 s0, I.byt_at s 1 s1] at hV
  by_cases h3 : I.hd s[0].toNat s[1].toNat = false
  · rw [if_pos h3] at hV
    rw [h3] at hh
    have HV := Lib.hid hV
    have HH := Lib.hid hh
    clear hV hh h3
    go_enter Tryd.func10, Tryd.ntmps10
    go_upto_region 5 with (go_at_call 15; refine (isRoom_yes most _ (by omega) (by omega)).mono ?_; rintro e w' ⟨rfl, rfl⟩)
    go_quiet ((go_at_call 24; exact quiet_same (HH.out _)))
    go_wp2
    go_ret2
    exact ⟨by rw [HV.out]; rfl, bq_drewN (bq_refl w) nq⟩
  · rw [if_neg h3] at hV
    rw [Bool.not_eq_false] at h3
    rw [h3] at hh
    have HV := Lib.hid hV
    have HH := Lib.hid hh
    clear hV hh h3
    go_enter Tryd.func10, Tryd.ntmps10
    go_upto_region 5 with (go_at_call 15; refine (isRoom_yes most _ (by omega) (by omega)).mono ?_; rintro e w' ⟨rfl, rfl⟩)
    go_quiet ((go_at_call 24; exact quiet_same (HH.out _)))
    have HB1 := Lib.hid (bq_drewN (bq_refl w) nq)
    have HG1 := Lib.hid (HG.out.keep HB1.out HG.out.four)
    generalize w.drewN nq = w1 at *
    go_upto_region 8 with (fail)
    obtain ⟨t, htt⟩ : ∃ t, t = s.extract 2 s.size := ⟨_, rfl⟩
    have hts : t.size = s.size - 2 := by rw [htt]; exact ext_size s 2
    rw [← htt] at HV ⊢
    have HTS := Lib.hid hts
    have ht1 : t.size ≤ 1048576 := by omega
    clear htt hts HG HH
    have HRW := Lib.hid (raw_any t most w1 ht1 HG1.out)
    cases h4 : I.raw t most with
    | error e1 =>
      rw [h4] at HV
      rw [rawR_err h4] at HRW
      unfold rawT at HRW
      have n0 : e1 ≠ 0 := I.raw_err h4
      have q0 : ((e1 : Int) != 0) = true := by rw [bne_iff_ne]; omega
      clear h4
      go_wp2_with (go_at_call 8; refine HRW.out.mono ?_; rintro e w2 ⟨rfl, hb2⟩)
      go_ret2
      exact ⟨by rw [HV.out]; rfl, bq_trans HB1.out hb2⟩
    | ok r =>
      obtain ⟨o, n⟩ := r
      rw [h4] at HV
      rw [rawR_ok h4] at HRW
      unfold rawT at HRW
      obtain ⟨r0, r1, r2, r3, r4⟩ := I.raw_ok h4
      have hos : (bs o).size ≤ maxLen := by unfold maxLen; rw [bs_size]; omega
      have HSM := Lib.hid (fun W => Ad.sum_any (bs o) W hos)
      obtain ⟨sm1, sm2⟩ := I.sm_eq o
      rw [sm1] at HSM
      obtain ⟨S, hS⟩ : ∃ S, S = I.sm o := ⟨_, rfl⟩
      rw [← hS] at HSM sm2
      obtain ⟨u, hu⟩ : ∃ u, u = t.extract n t.size := ⟨_, rfl⟩
      have hus : u.size ≤ 4194304 := by rw [hu, ext_size]; omega
      have HCL := Lib.hid (fun W => closes_any u S W hus sm2)
      have HUU := Lib.hid hu
      have HV2 : Hid (V = opV (if I.cl u S = 0 then .ok o else .error (I.cl u S))) := Lib.hid (by have hv := HV.out; simp only [] at hv; rw [hv, hu, hS])
      obtain ⟨C, hC⟩ : ∃ C, C = I.cl u S := ⟨_, rfl⟩
      have hc5 : C ≤ 5 := by rw [hC]; unfold I.cl; (repeat' split) <;> omega
      rw [← hC] at HCL HV2
      clear h4 HV hS hu hC sm1 hos
      go_upto_region 11 with (go_at_call 8; refine HRW.out.mono ?_; rintro e w2 ⟨rfl, hb2⟩)
      have HB2 := Lib.hid (bq_trans HB1.out hb2)
      clear hb2 HRW
      have r5 : (n : Int) ≤ (t.size : Int) := by omega
      have r6 : (0 : Int) ≤ (n : Int) := by omega
      go_quiet ((first | (go_at_call 26; exact quiet_same (HSM.out _)) | (go_at_call 25; rw [← HUU.out]; exact quiet_same (HCL.out _))))
      by_cases c0 : C = 0
      · have HV3 : Hid (V = opT o 0) := Lib.hid (by rw [HV2.out, if_pos c0]; rfl)
        subst c0
        go_wp2
        go_ret2
        exact ⟨by rw [HV3.out]; rfl, HB2.out.trans (bq_drewN (bq_refl w2) _ |>.mono HB2.out.size)⟩
      · have HV3 : Hid (V = opT [] C) := Lib.hid (by rw [HV2.out, if_neg c0]; rfl)
        have q0 : ((C : Int) != 0) = true := by rw [bne_iff_ne]; omega
        go_wp2
        go_ret2
        exact ⟨by rw [HV3.out]; rfl, HB2.out.trans (bq_drewN (bq_refl w2) _ |>.mono HB2.out.size)⟩
end Go.Proofs.YtddiccdfeckgaaaDoor
/- Layer 5, plain: numbers of bits at whole bytes; a stored block. -/
namespace Go.Proofs.YtddiccdfeckgaaaDoor.I
set_option linter.unusedVariables false
/-- the byte at j, as a number -/
def cc (s : ByteArray) (j : Nat) : Nat := (s.data.toList.getD j 0).toNat
theorem cc_lt (s : ByteArray) (j : Nat) : cc s j < 256 := (s.data.toList.getD j 0).toNat_lt
theorem nb_in (s : ByteArray) (j i : Nat) : ∀ n, i + n ≤ 8 → nb s (8 * j + i) n = cc s j / B.P2 i % B.P2 n
  | 0, _ => by rw [nb]; unfold B.P2; omega
  | n + 1, h => by
    rw [nb, nb_in s j i n (by omega)]
    have e : btv s (8 * j + i + n) = cc s j / B.P2 (i + n) % 2 := by
      unfold btv cc
      rw [show (8 * j + i + n) / 8 = j by omega, show (8 * j + i + n) % 8 = i + n by omega]
    rw [e, B.P2_add, ← Nat.div_div_eq_div_mul, B.P2_succ, Nat.mul_comm 2, Nat.mod_mul, Nat.mul_comm]
theorem nb_add (s : ByteArray) (p a : Nat) : ∀ b, nb s p (a + b) = nb s p a + B.P2 a * nb s (p + a) b
  | 0 => by rw [Nat.add_zero, nb]; omega
  | b + 1 => by
    rw [← Nat.add_assoc, nb, nb_add s p a b, nb, B.P2_add, Nat.mul_add, Nat.add_assoc p a b, Nat.add_assoc]
    congr 1
    congr 1
    rw [← Nat.mul_assoc, ← Nat.mul_assoc, Nat.mul_comm (btv s _) (B.P2 a)]
theorem nb8 (s : ByteArray) (j : Nat) : nb s (8 * j) 8 = cc s j := by
  have h := nb_in s j 0 8 (by omega)
  rw [Nat.add_zero, B.P2_zero, Nat.div_one, B.P2_8, Nat.mod_eq_of_lt (cc_lt s j)] at h
  exact h
theorem nb16 (s : ByteArray) (j : Nat) : nb s (8 * j) 16 = cc s j + 256 * cc s (j + 1) := by
  have h := nb_add s (8 * j) 8 8
  rw [nb8, B.P2_8, show 8 * j + 8 = 8 * (j + 1) by omega, nb8] at h
  exact h
theorem num_okk {s : ByteArray} {p n : Nat} (h : p + n ≤ 8 * s.size) : num s p n = .ok (nb s p n, p + n) := by unfold num; rw [if_neg (by omega)]
/-- a stored block of the bytes b at the byte j -/
theorem block_stored {s : ByteArray} {j f most : Nat} {b out : List UInt8} (hf : f < 2) (hb : b.length ≤ 65535) (hs : j + 5 + b.length ≤ s.size) (c0 : cc s j = f) (c1 : cc s (j + 1) = b.length % 256) (c2 : cc s (j + 2) = b.length / 256)
    (c3 : cc s (j + 3) = 255 - b.length % 256) (c4 : cc s (j + 4) = 255 - b.length / 256) (hd : (s.data.toList.drop (j + 5)).take b.length = b) (hm : out.length + b.length ≤ most) :
    block s most (8 * j) out = .ok (f == 1, 8 * (j + 5 + b.length), out ++ b) := by
  have n1 : num s (8 * j) 1 = .ok (f, 8 * j + 1) := by
    rw [num_okk (by omega)]
    have h := nb_in s j 0 1 (by omega)
    rw [Nat.add_zero, B.P2_zero, Nat.div_one, c0, show B.P2 1 = 2 by rfl, Nat.mod_eq_of_lt hf] at h
    rw [h]
  have n2 : num s (8 * j + 1) 2 = .ok (0, 8 * j + 3) := by
    rw [num_okk (by omega)]
    have h := nb_in s j 1 2 (by omega)
    rw [c0, show B.P2 1 = 2 by rfl, show B.P2 2 = 4 by rfl, Nat.div_eq_of_lt hf] at h
    rw [h]
  have n3 : num s (al (8 * j + 3)) 16 = .ok (b.length, 8 * (j + 1) + 16) := by
    rw [show al (8 * j + 3) = 8 * (j + 1) by unfold al; omega, num_okk (by omega), nb16, c1, c2, Nat.mod_add_div]
  have n4 : num s (8 * (j + 1) + 16) 16 = .ok (65535 - b.length, 8 * (j + 5)) := by
    rw [show 8 * (j + 1) + 16 = 8 * (j + 3) by omega, num_okk (by omega), nb16, c3, c4]
    congr 2
    omega
  have hbody : body s most (8 * j + 3) out 0 = .ok (8 * (j + 5 + b.length), out ++ b) := by
    unfold body
    rw [if_pos rfl]
    unfold stored
    rw [n3]
    simp only []
    rw [n4]
    simp only []
    rw [if_neg (fun h => h rfl), if_neg (by omega), show 8 * (j + 5) / 8 = j + 5 by omega, if_neg (by omega), hd]
    congr 2
    omega
  unfold block
  rw [n1]
  simp only []
  rw [n2]
  simp only []
  rw [hbody]
end Go.Proofs.YtddiccdfeckgaaaDoor.I
/- Layer 5: the fixed answer. -/
namespace Go.Proofs.YtddiccdfeckgaaaDoor
open Go.RowKit
set_option maxRecDepth 100000
set_option linter.unusedVariables false
theorem I.raw_end {s : ByteArray} {m q : Nat} {o : List UInt8} (hm : m ≤ 262144) (h : I.blocks s m 0 [] = .ok (q, o)) : I.raw s (m : Int) = .ok (o, (q + 7) / 8) := by
  unfold I.raw
  rw [if_neg (by omega), Int.toNat_natCast, h]
theorem I.block_of {s : ByteArray} {most p x p1 k p2 q : Nat} {out o : List UInt8} (h1 : I.num s p 1 = .ok (x, p1)) (h2 : I.num s p1 2 = .ok (k, p2)) (h3 : I.body s most p2 out k = .ok (q, o)) : I.block s most p out = .ok (x == 1, q, o) := by
  unfold I.block
  rw [h1]
  simp only []
  rw [h2]
  simp only []
  rw [h3]
theorem aw1 : I.raw ⟨#[1, 1, 0, 254, 255, 97]⟩ 9 = .ok ([97], 6) :=
  I.raw_end (m := 9) (by omega) (I.blocks_end (I.block_stored (j := 0) (f := 1) (b := [97]) (by omega) (by decide) (by decide) rfl rfl rfl rfl rfl rfl (by decide)))
theorem aw_end (s : ByteArray) (m : Nat) (hm : m ≤ 262144) (h1 : I.num s 0 1 = .ok (1, 1)) (h2 : I.num s 1 2 = .ok (1, 3)) (h3 : I.sym I.fixA s 3 = .ok (256, 10)) : I.raw s (m : Int) = .ok ([], 2) := by
  have h4 : I.one I.fixA I.fixD s m 3 [] = .ok (true, 10, []) := by unfold I.one; rw [h3]; rfl
  exact I.raw_end hm (I.blocks_end (I.block_of h1 h2 (by unfold I.body; rw [if_neg (by decide), if_pos rfl]; exact I.syms_end h4)))
theorem aw2 : I.raw ⟨#[3, 0]⟩ 0 = .ok ([], 2) := aw_end _ 0 (by omega) (by kernel_rfl) (by kernel_rfl) (by kernel_rfl)
theorem aw3 : I.raw ⟨#[3, 0, 0, 0, 0, 1]⟩ 9 = .ok ([], 2) := aw_end _ 9 (by omega) (by kernel_rfl) (by kernel_rfl) (by kernel_rfl)
theorem aw4 : I.opn ⟨#[120, 156, 3, 0, 0, 0, 0, 1]⟩ 9 = .ok [] := by
  unfold I.opn
  rw [if_neg (by omega), if_neg (by decide), if_neg (by decide), show (ByteArray.extract ⟨#[120, 156, 3, 0, 0, 0, 0, 1]⟩ 2 (ByteArray.size ⟨#[120, 156, 3, 0, 0, 0, 0, 1]⟩)) = ⟨#[3, 0, 0, 0, 0, 1]⟩ by decide, aw3]
  simp only []
  rw [if_pos (by decide)]
set_option maxRecDepth 100000 in
theorem awake_any (w : World) (hg : Gl w) : Calls Tryd.prog 7 #[] w fun e w' => e = .returned (.bool true) ∧ Below w.heap.size w w' := by
  have H1 := Lib.hid (fun W (h : Gl W) => raw_any ⟨#[1, 1, 0, 254, 255, 97]⟩ 9 W (by decide) h)
  have H2 := Lib.hid (fun W (h : Gl W) => raw_any ⟨#[3, 0]⟩ 0 W (by decide) h)
  have H3 := Lib.hid (fun W (h : Gl W) => open_any ⟨#[120, 156, 3, 0, 0, 0, 0, 1]⟩ 9 W (by decide) h)
  rw [rawR_ok aw1] at H1
  rw [rawR_ok aw2] at H2
  rw [aw4] at H3
  unfold rawT at H1 H2
  unfold opV opT at H3
  have HG := Lib.hid hg
  clear hg
  go_enter Tryd.func7, Tryd.ntmps7
  go_upto_region 2 with (go_at_call 8; refine (H1.out _ HG.out).mono ?_; rintro e w1 ⟨rfl, hb1⟩)
  have HG1 := Lib.hid (HG.out.keep hb1 HG.out.four)
  go_upto_region 3 with (go_at_call 8; refine (H2.out _ HG1.out).mono ?_; rintro e w2 ⟨rfl, hb2⟩)
  have HG2 := Lib.hid (HG1.out.keep hb2 HG1.out.four)
  go_upto_region 4 with (go_at_call 10; refine (H3.out _ HG2.out).mono ?_; rintro e w3 ⟨rfl, hb3⟩)
  have HB := Lib.hid (bq_trans (bq_trans hb1 hb2) hb3)
  clear hb1 hb2 hb3
  unfold bs
  go_wp2
  go_ret
  exact ⟨rfl, HB.out⟩
end Go.Proofs.YtddiccdfeckgaaaDoor
