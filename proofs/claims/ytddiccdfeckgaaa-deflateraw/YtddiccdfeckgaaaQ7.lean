import Derived.Test.YtddiccdfeckgaaaQ6
/- Layer 6: bits are written. -/
namespace Go.Proofs.Ytddiccdfeckgaaa
open Go.RowKit
set_option maxRecDepth 100000
set_option linter.unusedVariables false
set_option linter.unusedSimpArgs false
theorem wrap_u8n (x : Nat) : IntKind.u8.wrap (x : Int) = ((x % 256 : Nat) : Int) := by
  rw [IntKind.wrap_u8]
  omega
/-- bits, by numbers -/
theorem ofInt_i64q (a : Nat) (h : a < 9223372036854775808) : (BitVec.ofInt 64 (a : Int)).toNat = a := by
  rw [BitVec.toNat_ofInt]
  omega
theorem i64_orq (a b : Nat) (ha : a < 9223372036854775808) (hb : b < 9223372036854775808) : bits .or .i64 (a : Int) (b : Int) = ((a ||| b : Nat) : Int) := by
  have hx : a ||| b < 2 ^ 63 := Nat.or_lt_two_pow (by omega) (by omega)
  show IntKind.i64.wrap ((BitVec.ofInt 64 (a : Int) ||| BitVec.ofInt 64 (b : Int)).toNat : Int) = _
  rw [BitVec.toNat_or, ofInt_i64q a ha, ofInt_i64q b hb, IntKind.wrap_i64]
  omega
/-- bits behind others, by a shift -/
theorem or_shlq (x v c : Nat) (hx : x < D.two c) (hc : c < 8) (hv : v < 65536) : bits .or .i64 (x : Int) (wrap64 ((v : Int) * 2 ^ c)) = ((x + D.two c * v : Nat) : Int) := by
  have h2 : D.two c ≤ 128 := by
    have : ∀ c : Fin 8, D.two c ≤ 128 := by decide
    exact this ⟨c, hc⟩
  have hvc : D.two c * v ≤ 128 * v := Nat.mul_le_mul_right v h2
  have e : ((v : Int) * 2 ^ c) = ((v * 2 ^ c : Nat) : Int) := by push_cast; rfl
  have e2 : v * 2 ^ c = D.two c * v := by rw [← D.two_pow, Nat.mul_comm]
  rw [e, e2, i64_id _ (by omega) (by omega), i64_orq x (D.two c * v) (by omega) (by omega)]
  congr 1
  have := Nat.shiftLeft_add_eq_or_of_lt (i := c) (b := x) (by rw [← D.two_pow]; exact hx) v
  rw [Nat.shiftLeft_eq, ← D.two_pow, Nat.mul_comm] at this
  rw [Nat.or_comm, ← this]
  omega
def cntOf (w : World) (b : Nat) : Nat := match w.cell? ⟨b, 2, none⟩ with | some v => (intOf v).toNat | none => 0
theorem Pq.cnt {w : World} {B b : Nat} {sl : Value} {o : List UInt8} {R : List Nat} (h : Pq w B b sl o R) : cntOf w b = R.length := by unfold cntOf; rw [h.cells.2.2.1]; simp [intOf]
def NmRel (w : World) (B b : Nat) (sl : Value) (O : List UInt8) (Z : List Nat) (wr : World) : Prop :=
  ∃ (sl' : Value) (o : List UInt8) (R : List Nat), Pq wr B b sl' o R ∧ Kb b sl w wr sl' ∧ R.length ≤ 40 ∧ o.length ≤ 1048576 - R.length ∧ o ++ D.bytesOf R = O ∧ D.restOf R = Z
theorem val_split (R : List Nat) (h : 8 ≤ R.length) : D.val R = D.val (R.take 8) + 256 * D.val (R.drop 8) := by
  have := D.val_app (R.take 8) (R.drop 8)
  rw [List.take_append_drop, List.length_take, Nat.min_eq_left h] at this
  exact this
theorem val_40 (R : List Nat) (hb : ∀ x ∈ R, x < 2) (hl : R.length ≤ 40) : D.val R ≤ 1099511627776 := by
  have h1 := D.val_lt R hb
  have h2 : D.two R.length ≤ D.two 40 := by rw [D.two_pow, D.two_pow]; exact Nat.pow_le_pow_right (by omega) hl
  have h3 : D.two 40 = 1099511627776 := by decide
  omega
set_option maxHeartbeats 2000000 in
theorem number6_any {w : World} {B b : Nat} {sl : Value} {L : List Nat} (h : Pk w B b sl L) (v n : Nat) (hn : n ≤ 16) (hv : v < D.two n) (hL : L.length ≤ 8000000) :
    Calls Try.prog 34 #[.pointer (some ⟨b, 0, none⟩), .int .i64 (v : Int), .int .i64 (n : Int)] w fun e w' => e = .returned (.tuple #[]) ∧ ∃ sl', Pk w' B b sl' (L ++ D.nb v n) ∧ Kb b sl w w' sl' := by
  obtain ⟨hq, hbit⟩ := h
  obtain ⟨c0, c1, c2, f0, f1, f2⟩ := hq.cells
  have HQ := Lib.hid hq
  have hap := D.bytesOf_app _ L (D.nb v n) (Nat.le_refl _)
  obtain ⟨R0, hR0⟩ : ∃ R0, R0 = D.restOf L := ⟨_, rfl⟩
  have hR0l : R0.length < 8 := by rw [hR0, D.restOf_len]; omega
  have hR0b : ∀ x ∈ R0, x < 2 := fun x hx => hbit x (D.restOf_mem (by rw [← hR0]; exact hx))
  rw [← hR0] at HQ c1 c2 hap
  have hol : (D.bytesOf L).length ≤ 1000000 := by rw [D.bytesOf_len _ L (Nat.le_refl _)]; omega
  have hbits : ∀ x ∈ L ++ D.nb v n, x < 2 := fun x hx => by
    rw [List.mem_append] at hx
    rcases hx with hx | hx
    · exact hbit x hx
    · exact D.nb_bit v n x hx
  have HBIT := Lib.hid hbits
  have h16 : D.two n ≤ 65536 := by
    have h2 : D.two n ≤ D.two 16 := by rw [D.two_pow, D.two_pow]; exact Nat.pow_le_pow_right (by omega) hn
    have h3 : D.two 16 = 65536 := by decide
    omega
  have hv16 : v < 65536 := by omega
  have hor := or_shlq (D.val R0) v R0.length (D.val_lt R0 hR0b) hR0l hv16
  have hva : D.val R0 + D.two R0.length * v = D.val (R0 ++ D.nb v n) := by rw [D.val_app, D.val_nb v n hv]
  rw [hva] at hor
  have hx0 := val_40 R0 hR0b (by omega)
  obtain ⟨x0, hx0e⟩ : ∃ x, x = D.val R0 := ⟨_, rfl⟩
  obtain ⟨R1, hR1⟩ : ∃ R1, R1 = R0 ++ D.nb v n := ⟨_, rfl⟩
  have hR1l : R1.length = R0.length + n := by rw [hR1, List.length_append, D.nb_len]
  have hR1b : ∀ x ∈ R1, x < 2 := fun x hx => by
    rw [hR1, List.mem_append] at hx
    rcases hx with hx | hx
    · exact hR0b x hx
    · exact D.nb_bit v n x hx
  rw [← hR1] at hor hap
  rw [← hx0e] at hor c1 hx0
  obtain ⟨r0, hr0⟩ : ∃ r, r = R0.length := ⟨_, rfl⟩
  rw [← hr0] at hor c2 hR0l
  obtain ⟨x1, hx1⟩ : ∃ x, x = D.val R1 := ⟨_, rfl⟩
  rw [← hx1] at hor
  obtain ⟨r1, hr1⟩ : ∃ r, r = R1.length := ⟨_, rfl⟩
  have er : (r0 : Int) + (n : Int) = (r1 : Int) := by omega
  have hr19 : r1 ≤ 40 := by omega
  have HST : Hid (NmRel w B b sl (D.bytesOf (L ++ D.nb v n)) (D.restOf (L ++ D.nb v n)) ((w.setCell ⟨b, 1, none⟩ (.int .i64 (x1 : Int))).setCell ⟨b, 2, none⟩ (.int .i64 (r1 : Int)))) := Lib.hid ⟨sl, D.bytesOf L, R1, by
      have hT := turned_trans (turned_set w ⟨b, 1, none⟩ (.int .i64 (x1 : Int))) (turned_set _ ⟨b, 2, none⟩ (.int .i64 (r1 : Int)))
      refine HQ.out.lay hT ?_ hR1b
      rw [← hx1, ← hr1]
      exact (HQ.out.blk.set 1 _).set 2 _, by
      have hT := turned_trans (turned_set w ⟨b, 1, none⟩ (.int .i64 (x1 : Int))) (turned_set _ ⟨b, 2, none⟩ (.int .i64 (r1 : Int)))
      exact Kb.of_turned _ hT, by omega, by omega, hap.1.symm, hap.2.symm⟩
  have HOR := Lib.hid hor
  obtain ⟨O, hO⟩ : ∃ O, O = D.bytesOf (L ++ D.nb v n) := ⟨_, rfl⟩
  obtain ⟨Z, hZ⟩ : ∃ Z, Z = D.restOf (L ++ D.nb v n) := ⟨_, rfl⟩
  have HOZ := Lib.hid (And.intro hO hZ)
  rw [← hO, ← hZ] at HST
  clear hq hbit hap hR0 hR0b hol hbits h16 hva hx0e hR1 hR1l hR1b hr0 hx1 hr1 hO hZ HQ hv
  go_enter Try.func34, Try.ntmps34
  go_upto_region 0 with (fail)
  go_region
  go_wp2
  go_loopw [31] (fun _ wr => NmRel w B b sl O Z wr) (fun _ wr => cntOf wr b)
  case atStart =>
    obtain ⟨sl', o, R, hq, hk, h3, h4, h5, h6⟩ := HST.out
    exact ⟨sl', o, R, hq.keep (bq_drew (bq_refl _)), hk.trans (Kb.of_below _ _ (bq_drew (bq_refl _))), h3, h4, h5, h6⟩
  case round =>
    obtain ⟨sl', o, R, hq, hk, hR4, hol, hO, hZ⟩ := hrel
    clear HST HOR hor c0 c1 c2 f0 f1 f2 er
    obtain ⟨ua, uc, rfl, hcap⟩ := hq.own.len
    obtain ⟨UL, hUL⟩ : ∃ UL, UL = o.length := ⟨_, rfl⟩
    rw [← hUL] at hq hk hcap hol
    have HUL := Lib.hid hUL
    have HQ := Lib.hid hq
    have HK := Lib.hid hk
    have HCN := Lib.hid hq.cnt
    obtain ⟨c0, c1, c2, f0, f1, f2⟩ := hq.cells
    by_cases h8 : 8 ≤ R.length
    · have t0 : decide (8 ≤ (R.length : Int)) = true := by rw [decide_eq_true_iff]; omega
      have hsp := val_split R h8
      have hvb := val_40 R hq.bit hR4
      have hlt : D.val (R.take 8) < 256 := by
        have h1 := D.val_lt (R.take 8) (fun x hx => hq.bit x (List.mem_of_mem_take hx))
        rw [List.length_take, Nat.min_eq_left h8] at h1
        exact h1
      obtain ⟨y, hy⟩ : ∃ y, y = D.val (R.take 8) := ⟨_, rfl⟩
      obtain ⟨z, hz⟩ : ∃ z, z = D.val (R.drop 8) := ⟨_, rfl⟩
      obtain ⟨x, hx⟩ : ∃ x, x = D.val R := ⟨_, rfl⟩
      rw [← hx, ← hy, ← hz] at hsp
      rw [← hx] at c1 hvb
      rw [← hy] at hlt
      have hyb : (UInt8.ofNat y).toNat = y := by rw [UInt8.toNat_ofNat']; omega
      obtain ⟨aa, nn, cc, w7, hrun, d0, g0, HF⟩ := hq.push (Lib.hid (by rw [← HUL.out]; omega)) (bq_alloc (bq_drew (bq_refl wr)) (.cells #[.int .u8 ((UInt8.ofNat y).toNat : Int)] 5)) (UInt8.ofNat y) (heap_alloc_new wr.drew _) 38
      rw [hyb] at hrun
      have HRUN := Lib.hid hrun
      have hw8 : IntKind.u8.wrap (x : Int) = (y : Int) := by rw [IntKind.wrap_u8]; omega
      have HNX : Hid (o ++ [UInt8.ofNat y] ++ D.bytesOf (R.drop 8) = O ∧ D.restOf (R.drop 8) = Z) := Lib.hid ⟨by rw [← hO, D.bytesOf_step h8, List.append_assoc, hy]; rfl, by rw [← hZ, D.restOf_step h8]⟩
      obtain ⟨k0, k1, k2, l0, l1, l2⟩ := HF.out.1.cells
      rw [← hx] at k1
      have HF2 : Hid (∀ W, Turned b (w7.setCell ⟨b, 0, none⟩ (.slice aa nn cc)) W → Blk W b (pkA (.slice aa nn cc) z (R.length - 8)) 40 → Pq W B b (.slice aa nn cc) (o ++ [UInt8.ofNat y]) (R.drop 8)) := Lib.hid (fun W hT hB => HF.out.1.lay hT (by rw [← hz, List.length_drop]; exact hB) (fun u hu => HQ.out.bit u (List.mem_of_mem_drop hu)))
      have HK2 := Lib.hid (HK.out.trans HF.out.2)
      have e0 : (wr.alloc (.cells #[.int .u8 (y : Int)] 5)).cell? ⟨b, 0, none⟩ = some (.slice ua UL uc) := (hq.blk.alloc _).cell 0
      have e1 : (wr.alloc (.cells #[.int .u8 (y : Int)] 5)).cell? ⟨b, 1, none⟩ = some (.int .i64 (x : Int)) := by rw [hx]; exact (hq.blk.alloc _).cell 1
      obtain ⟨r, hr⟩ : ∃ r, r = R.length := ⟨_, rfl⟩
      obtain ⟨r8, hr8⟩ : ∃ r, r = R.length - 8 := ⟨_, rfl⟩
      have er : (r : Int) - 8 = (r8 : Int) := by omega
      have es : (x : Int) / 256 = (z : Int) := by omega
      have HRL := Lib.hid (And.intro hr hr8)
      rw [← hr] at t0 c2 k2 HCN
      rw [← hr8] at HF2
      have hr9 : r ≤ 40 := by omega
      have hz9 : z ≤ 1099511627776 := by omega
      have hX : Hid (o.length + 1 ≤ 1048576 - r8 ∧ r8 ≤ 40 ∧ (R.drop 8).length = r8) := Lib.hid (by rw [List.length_drop, ← HUL.out]; omega)
      clear hUL hcap hq hk hrun hy hz hx hsp hyb hr hr8 hO hZ hol hR4 h8
      go_wp2_with fail
      go_region_law (refine step_append_q (by rfl) _ _ (by rfl) (by rfl) (by rfl) HRUN.out ?_)
      all_goals
        have hT := turned_trans (turned_set (w7.setCell ⟨b, 0, none⟩ (.slice aa nn cc)) ⟨b, 1, none⟩ (.int .i64 (z : Int))) (turned_set _ ⟨b, 2, none⟩ (.int .i64 (r8 : Int)))
        have hP := HF2.out _ hT ((HF.out.1.blk.set 1 (.int .i64 (z : Int))).set 2 (.int .i64 (r8 : Int)))
        have HP := Lib.hid hP
        have HK3 := Lib.hid (HK2.out.trans (Kb.of_turned _ hT))
        clear hT hP
        go_wp2
        go_roundw
        case rel => exact ⟨_, _, _, HP.out, HK3.out, by have := hX.out; omega, by have := hX.out; rw [List.length_append, List.length_singleton]; omega, HNX.out.1, HNX.out.2⟩
        case measure => rw [HP.out.cnt, HCN.out]; have := hX.out; have := HRL.out; omega
    · have t0 : decide (8 ≤ (R.length : Int)) = false := by rw [decide_eq_false_iff_not]; omega
      have HPK : Hid (Pk wr B b (.slice ua UL uc) (L ++ D.nb v n)) := Lib.hid ⟨by
        rw [← HOZ.out.1, ← HOZ.out.2, ← hO, ← hZ, D.bytesOf_small (by omega), D.restOf_small (by omega), List.append_nil]
        exact HQ.out, HBIT.out⟩
      obtain ⟨r, hr⟩ : ∃ r, r = R.length := ⟨_, rfl⟩
      rw [← hr] at t0 c2
      clear hq hk hO hZ hr
      go_wp2
      go_end0
      exact ⟨rfl, _, HPK.out, HK.out⟩
end Go.Proofs.Ytddiccdfeckgaaa
