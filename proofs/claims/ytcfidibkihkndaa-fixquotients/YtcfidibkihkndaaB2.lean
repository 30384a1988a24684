import Derived.Test.YtcfidibkihkndaaB1
import Derived.Test.YtcfidibkihkndaaU1
import Derived.Test.YtcfidibkihkndaaM4
import Derived.Deep.DeepCutAuto
import Derived.Deep.CutBlock
namespace Go.Proofs.Ytcfidibkihkndaa
open Go.RowKit
set_option linter.unusedVariables false

theorem ret_uu {a a' g : Int} (h : a = a') : Ending.returned (.tuple #[.int .u64 a, .int .u64 g]) = .returned (.tuple #[.int .u64 a', .int .u64 g]) := by rw [h]

/-- at the head of a digit's loop -/
def DigRel (U c Y a : Nat) (x z : Value) : Prop := ∃ q r : Nat, x = .int .u64 q ∧ z = .int .u64 r ∧ q * a + r = U ∧ r < 4294967296 ∧ M4.quo U c Y ≤ q ∧ q ≤ 4294967298
theorem DigRel.out {U c Y a : Nat} {x z : Value} (h : DigRel U c Y a x z) : ∃ q r : Nat, x = .int .u64 q ∧ z = .int .u64 r ∧ q * a + r = U ∧ r < 4294967296 ∧ M4.quo U c Y ≤ q ∧ q ≤ 4294967298 := h
/-- behind it -/
def DigEnd (Q : Nat) (x z : Value) : Prop := x = .int .u64 (Q : Int) ∧ ∃ r : Int, z = .int .u64 r

set_option maxHeartbeats 4000000 in
set_option maxRecDepth 100000 in
theorem div64_core (h l y s Y a b U V c d : Nat) (w : World) (h0 : 0 < h) (hy : h < y) (y1 : y < 18446744073709551616) (l1 : l < 18446744073709551616) (hs : s < 64)
    (eY : IntKind.u64.wrap ((y : Int) * 2 ^ s) = (Y : Int)) (e1 : (Y : Int) / 4294967296 = (a : Int)) (e2 : bits .and .u64 (Y : Int) 4294967295 = (b : Int)) (a0 : 2147483648 ≤ a) (a1 : a < 4294967296) (b1 : b < 4294967296)
    (eU : bits .or .u64 (IntKind.u64.wrap ((h : Int) * 2 ^ s)) ((l : Int) / 2 ^ (64 - s)) = (U : Int)) (eV : IntKind.u64.wrap ((l : Int) * 2 ^ s) = (V : Int))
    (e3 : (V : Int) / 4294967296 = (c : Int)) (e4 : bits .and .u64 (V : Int) 4294967295 = (d : Int)) (c1 : c < 4294967296) (d1 : d < 4294967296) (Y1 : Y < 18446744073709551616) (U1 : U < 18446744073709551616)
    (q r Q R : Nat) (eq : IntKind.u64.wrap ((U : Int) / (a : Int)) = (q : Int)) (er : IntKind.u64.wrap ((U : Int) - IntKind.u64.wrap ((q : Int) * (a : Int))) = (r : Int))
    (S1 : Hid (q * a + r = U ∧ r < 4294967296 ∧ M4.quo U c Y ≤ q ∧ q ≤ 4294967298))
    (D : Hid (M4.Digit U c Y a b)) (HQ : Hid (Q = M4.quo U c Y)) (Q1 : Q < 4294967296)
    (eR : IntKind.u64.wrap (IntKind.u64.wrap (IntKind.u64.wrap ((U : Int) * 4294967296) + (c : Int)) - IntKind.u64.wrap ((Q : Int) * (Y : Int))) = (R : Int)) (R1 : R < 18446744073709551616)
    (q2 r2 Q2 F G : Nat) (eq2 : IntKind.u64.wrap ((R : Int) / (a : Int)) = (q2 : Int)) (er2 : IntKind.u64.wrap ((R : Int) - IntKind.u64.wrap ((q2 : Int) * (a : Int))) = (r2 : Int))
    (S2 : Hid (q2 * a + r2 = R ∧ r2 < 4294967296 ∧ M4.quo R d Y ≤ q2 ∧ q2 ≤ 4294967298))
    (D2 : Hid (M4.Digit R d Y a b)) (HQ2 : Hid (Q2 = M4.quo R d Y)) (Q21 : Q2 < 4294967296)
    (eF : Hid ((Q : Int) * 4294967296 + (Q2 : Int) = (F : Int)))
    (eG : IntKind.u64.wrap (IntKind.u64.wrap (IntKind.u64.wrap ((R : Int) * 4294967296) + (d : Int)) - IntKind.u64.wrap ((Q2 : Int) * (Y : Int))) / 2 ^ s = (G : Int))
    (C : Hid (Calls Try.prog 41 #[.int .u64 y] w fun e w' => e = .returned (.int .i64 (s : Int)) ∧ w = w')) :
    Calls Try.prog 35 #[.int .u64 h, .int .u64 l, .int .u64 y] w fun e w' => e = .returned (.tuple #[.int .u64 (F : Int), .int .u64 (G : Int)]) ∧ w = w' := by
  have k1 : ((y : Int) == 0) = false := by rw [beq_eq_false_iff_ne]; omega
  have k2 : decide (y ≤ h) = false := by simp; omega
  have k3 : ((h : Int) == 0) = false := by rw [beq_eq_false_iff_ne]; omega
  go_enter Try.func35, Try.ntmps35
  go_upto_block 0 with (go_at_call 41; refine C.out.mono ?_; rintro e w' ⟨rfl, rfl⟩)
  go_cut [15, 16] (fun x z wx => w = wx ∧ DigEnd Q x z)
  case first =>
    clear eY e1 e2 eU eV e3 e4 eq er k1 k2 k3 h0 hy y1 l1 hs C eR eq2 er2 eF eG S2 D2 HQ2
    go_wp2_with fail
    go_loop [15, 16] (fun x z => DigRel U c Y a x z) (fun x _ => (intOf x).toNat)
    case atStart => exact ⟨_, _, rfl, rfl, S1.out⟩
    case round =>
      obtain ⟨q', r', rfl, rfl, hq, hr, hl, hu⟩ := hrel.out
      clear hrel
      have HS := Lib.hid (And.intro hq hl)
      have HU := Lib.hid (And.intro hr (And.intro hu (And.intro a0 (And.intro a1 (And.intro b1 (And.intro c1 d1))))))
      clear hq hl  hr hu a0 a1 b1 c1 d1 Y1 U1 Q1 R1 Q21
      by_cases t1 : 4294967296 ≤ q'
      · have ct1 : decide ((4294967296 : Int) ≤ (q' : Int)) = true := by simp; omega
        have HG := Lib.hid (M4.more D.out HS.out.1 (.inl t1))
        clear t1
        obtain ⟨p, hp⟩ : ∃ p, q' = p + 1 := ⟨q' - 1, by have := HG.out; omega⟩
        have HP := Lib.hid hp
        obtain ⟨z, hz⟩ : ∃ z, z = r' + a := ⟨_, rfl⟩
        have f1 : IntKind.u64.wrap ((q' : Int) - 1) = (p : Int) := by rw [IntKind.wrap_u64]; have := HU.out; omega
        have f2 : IntKind.u64.wrap ((r' : Int) + (a : Int)) = (z : Int) := by rw [IntKind.wrap_u64]; have := HU.out; omega
        have hb : 4294967296 ≤ z → p ≤ M4.quo U c Y := fun hz' => M4.brk D.out (M4.less (by rw [← hp]; exact HS.out.1)) (by omega)
        have HZ := Lib.hid (And.intro hz (show p * a + z = U by rw [hz]; exact M4.less (by rw [← hp]; exact HS.out.1)))
        have HB := Lib.hid hb
        clear hp hz hb
        by_cases t3 : 4294967296 ≤ z
        · have ct3 : decide ((4294967296 : Int) ≤ (z : Int)) = true := by simp; omega
          have HT := Lib.hid t3
          clear t3
          go_wp2
          go_meet
          refine ⟨rfl, ?_, _, rfl⟩
          have e : p = Q := Nat.le_antisymm (by rw [HQ.out]; exact HB.out HT.out) (by rw [HQ.out]; have := HG.out; have := HP.out; omega)
          rw [e]
        · have ct3 : decide ((4294967296 : Int) ≤ (z : Int)) = false := by simp; omega
          have HT := Lib.hid t3
          clear t3
          go_wp2
          go_round
          case rel => exact ⟨p, z, rfl, rfl, HZ.out.2, by have := HT.out; omega, by have := HG.out; have := HP.out; omega, by have := HP.out; have := HU.out; omega⟩
          case measure => simp [intOf]; have := HP.out; omega
      · have ct1 : decide ((4294967296 : Int) ≤ (q' : Int)) = false := by simp; omega
        obtain ⟨m, hm⟩ : ∃ m, m = q' * b := ⟨_, rfl⟩
        have hm1 : m ≤ 4294967295 * 4294967295 := by rw [hm]; exact Nat.mul_le_mul (by omega) (by have := HU.out; omega)
        have g1 : IntKind.u64.wrap ((q' : Int) * (b : Int)) = (m : Int) := by rw [hm, IntKind.wrap_u64]; rw [hm] at hm1; push_cast at hm1 ⊢; have : (0 : Int) ≤ (q' : Int) * (b : Int) := Int.mul_nonneg (by omega) (by omega); omega
        obtain ⟨n, hn⟩ : ∃ n, n = 4294967296 * r' := ⟨_, rfl⟩
        have g2 : IntKind.u64.wrap (4294967296 * (r' : Int)) = (n : Int) := by rw [hn, IntKind.wrap_u64]; have := HU.out; omega
        obtain ⟨k, hk⟩ : ∃ k, k = n + c := ⟨_, rfl⟩
        have g3 : IntKind.u64.wrap ((n : Int) + (c : Int)) = (k : Int) := by rw [hk, hn, IntKind.wrap_u64]; have := HU.out; omega
        have hnk : k = 4294967296 * r' + c := by omega
        have HM := Lib.hid (And.intro hm hnk)
        clear hm hn hk hnk hm1 t1
        by_cases t2 : k < m
        · have HG := Lib.hid (M4.more D.out HS.out.1 (.inr (by rw [← HM.out.1, ← HM.out.2]; exact t2)))
          have ct2 : decide (k < m) = true := by simpa using t2
          clear t2
          obtain ⟨p, hp⟩ : ∃ p, q' = p + 1 := ⟨q' - 1, by have := HG.out; omega⟩
          have HP := Lib.hid hp
          obtain ⟨z, hz⟩ : ∃ z, z = r' + a := ⟨_, rfl⟩
          have f1 : IntKind.u64.wrap ((q' : Int) - 1) = (p : Int) := by rw [IntKind.wrap_u64]; have := HU.out; omega
          have f2 : IntKind.u64.wrap ((r' : Int) + (a : Int)) = (z : Int) := by rw [IntKind.wrap_u64]; have := HU.out; omega
          have hb : 4294967296 ≤ z → p ≤ M4.quo U c Y := fun hz' => M4.brk D.out (M4.less (by rw [← hp]; exact HS.out.1)) (by omega)
          have HZ := Lib.hid (And.intro hz (show p * a + z = U by rw [hz]; exact M4.less (by rw [← hp]; exact HS.out.1)))
          have HB := Lib.hid hb
          clear hp hz hb
          by_cases t3 : 4294967296 ≤ z
          · have ct3 : decide ((4294967296 : Int) ≤ (z : Int)) = true := by simp; omega
            have HT := Lib.hid t3
            clear t3
            go_wp2
            go_meet
            refine ⟨rfl, ?_, _, rfl⟩
            have e : p = Q := Nat.le_antisymm (by rw [HQ.out]; exact HB.out HT.out) (by rw [HQ.out]; have := HG.out; have := HP.out; omega)
            rw [e]
          · have ct3 : decide ((4294967296 : Int) ≤ (z : Int)) = false := by simp; omega
            have HT := Lib.hid t3
            clear t3
            go_wp2
            go_round
            case rel => exact ⟨p, z, rfl, rfl, HZ.out.2, by have := HT.out; omega, by have := HG.out; have := HP.out; omega, by have := HP.out; have := HU.out; omega⟩
            case measure => simp [intOf]; have := HP.out; omega
        · have hd := M4.done D.out HS.out.1 (by rw [← HM.out.1, ← HM.out.2]; omega)
          have e : q' = Q := Nat.le_antisymm (by rw [HQ.out]; exact hd) (by rw [HQ.out]; exact HS.out.2)
          have HE := Lib.hid e
          have ct2 : decide (k < m) = false := by simpa using t2
          clear t2 hd e
          go_wp2
          go_meet
          exact ⟨rfl, by rw [HE.out], _, rfl⟩
  case rest =>
    obtain ⟨rfl, rfl, r', rfl⟩ := hcut
    clear eY e1 e2 eU eV e3 e4 eq er k1 k2 k3 h0 hy y1 l1 C S1 D HQ
    go_upto_block 2 with fail
    go_cut [18, 16] (fun x z wx => w = wx ∧ DigEnd Q2 x z)
    case first =>
      clear eR eq2 er2 eF eG
      go_wp2_with fail
      go_loop [18, 16] (fun x z => DigRel R d Y a x z) (fun x _ => (intOf x).toNat)
      case atStart => exact ⟨_, _, rfl, rfl, S2.out⟩
      case round =>
        obtain ⟨q', r', rfl, rfl, hq, hr, hl, hu⟩ := hrel.out
        clear hrel
        have HS := Lib.hid (And.intro hq hl)
        have HU := Lib.hid (And.intro hr (And.intro hu (And.intro a0 (And.intro a1 (And.intro b1 (And.intro c1 d1))))))
        clear hq hl hr hu a0 a1 b1 c1 d1 Y1 U1 Q1 R1 Q21
        by_cases t1 : 4294967296 ≤ q'
        · have ct1 : decide ((4294967296 : Int) ≤ (q' : Int)) = true := by simp; omega
          have HG := Lib.hid (M4.more D2.out HS.out.1 (.inl t1))
          clear t1
          obtain ⟨p, hp⟩ : ∃ p, q' = p + 1 := ⟨q' - 1, by have := HG.out; omega⟩
          have HP := Lib.hid hp
          obtain ⟨z, hz⟩ : ∃ z, z = r' + a := ⟨_, rfl⟩
          have f1 : IntKind.u64.wrap ((q' : Int) - 1) = (p : Int) := by rw [IntKind.wrap_u64]; have := HU.out; omega
          have f2 : IntKind.u64.wrap ((r' : Int) + (a : Int)) = (z : Int) := by rw [IntKind.wrap_u64]; have := HU.out; omega
          have hb : 4294967296 ≤ z → p ≤ M4.quo R d Y := fun hz' => M4.brk D2.out (M4.less (by rw [← hp]; exact HS.out.1)) (by omega)
          have HZ := Lib.hid (And.intro hz (show p * a + z = R by rw [hz]; exact M4.less (by rw [← hp]; exact HS.out.1)))
          have HB := Lib.hid hb
          clear hp hz hb
          by_cases t3 : 4294967296 ≤ z
          · have ct3 : decide ((4294967296 : Int) ≤ (z : Int)) = true := by simp; omega
            have HT := Lib.hid t3
            clear t3
            go_wp2
            go_meet
            refine ⟨rfl, ?_, _, rfl⟩
            have e : p = Q2 := Nat.le_antisymm (by rw [HQ2.out]; exact HB.out HT.out) (by rw [HQ2.out]; have := HG.out; have := HP.out; omega)
            rw [e]
          · have ct3 : decide ((4294967296 : Int) ≤ (z : Int)) = false := by simp; omega
            have HT := Lib.hid t3
            clear t3
            go_wp2
            go_round
            case rel => exact ⟨p, z, rfl, rfl, HZ.out.2, by have := HT.out; omega, by have := HG.out; have := HP.out; omega, by have := HP.out; have := HU.out; omega⟩
            case measure => simp [intOf]; have := HP.out; omega
        · have ct1 : decide ((4294967296 : Int) ≤ (q' : Int)) = false := by simp; omega
          obtain ⟨m, hm⟩ : ∃ m, m = q' * b := ⟨_, rfl⟩
          have hm1 : m ≤ 4294967295 * 4294967295 := by rw [hm]; exact Nat.mul_le_mul (by omega) (by have := HU.out; omega)
          have g1 : IntKind.u64.wrap ((q' : Int) * (b : Int)) = (m : Int) := by rw [hm, IntKind.wrap_u64]; rw [hm] at hm1; push_cast at hm1 ⊢; have : (0 : Int) ≤ (q' : Int) * (b : Int) := Int.mul_nonneg (by omega) (by omega); omega
          obtain ⟨n, hn⟩ : ∃ n, n = 4294967296 * r' := ⟨_, rfl⟩
          have g2 : IntKind.u64.wrap (4294967296 * (r' : Int)) = (n : Int) := by rw [hn, IntKind.wrap_u64]; have := HU.out; omega
          obtain ⟨k, hk⟩ : ∃ k, k = n + d := ⟨_, rfl⟩
          have g3 : IntKind.u64.wrap ((n : Int) + (d : Int)) = (k : Int) := by rw [hk, hn, IntKind.wrap_u64]; have := HU.out; omega
          have hnk : k = 4294967296 * r' + d := by omega
          have HM := Lib.hid (And.intro hm hnk)
          clear hm hn hk hnk hm1 t1
          by_cases t2 : k < m
          · have HG := Lib.hid (M4.more D2.out HS.out.1 (.inr (by rw [← HM.out.1, ← HM.out.2]; exact t2)))
            have ct2 : decide (k < m) = true := by simpa using t2
            clear t2
            obtain ⟨p, hp⟩ : ∃ p, q' = p + 1 := ⟨q' - 1, by have := HG.out; omega⟩
            have HP := Lib.hid hp
            obtain ⟨z, hz⟩ : ∃ z, z = r' + a := ⟨_, rfl⟩
            have f1 : IntKind.u64.wrap ((q' : Int) - 1) = (p : Int) := by rw [IntKind.wrap_u64]; have := HU.out; omega
            have f2 : IntKind.u64.wrap ((r' : Int) + (a : Int)) = (z : Int) := by rw [IntKind.wrap_u64]; have := HU.out; omega
            have hb : 4294967296 ≤ z → p ≤ M4.quo R d Y := fun hz' => M4.brk D2.out (M4.less (by rw [← hp]; exact HS.out.1)) (by omega)
            have HZ := Lib.hid (And.intro hz (show p * a + z = R by rw [hz]; exact M4.less (by rw [← hp]; exact HS.out.1)))
            have HB := Lib.hid hb
            clear hp hz hb
            by_cases t3 : 4294967296 ≤ z
            · have ct3 : decide ((4294967296 : Int) ≤ (z : Int)) = true := by simp; omega
              have HT := Lib.hid t3
              clear t3
              go_wp2
              go_meet
              refine ⟨rfl, ?_, _, rfl⟩
              have e : p = Q2 := Nat.le_antisymm (by rw [HQ2.out]; exact HB.out HT.out) (by rw [HQ2.out]; have := HG.out; have := HP.out; omega)
              rw [e]
            · have ct3 : decide ((4294967296 : Int) ≤ (z : Int)) = false := by simp; omega
              have HT := Lib.hid t3
              clear t3
              go_wp2
              go_round
              case rel => exact ⟨p, z, rfl, rfl, HZ.out.2, by have := HT.out; omega, by have := HG.out; have := HP.out; omega, by have := HP.out; have := HU.out; omega⟩
              case measure => simp [intOf]; have := HP.out; omega
          · have hd := M4.done D2.out HS.out.1 (by rw [← HM.out.1, ← HM.out.2]; omega)
            have e : q' = Q2 := Nat.le_antisymm (by rw [HQ2.out]; exact hd) (by rw [HQ2.out]; exact HS.out.2)
            have HE := Lib.hid e
            have ct2 : decide (k < m) = false := by simpa using t2
            clear t2 hd e
            go_wp2
            go_meet
            exact ⟨rfl, by rw [HE.out], _, rfl⟩
    case rest =>
      obtain ⟨rfl, rfl, r', rfl⟩ := hcut
      clear eR eq2 er2 S2 D2 HQ2
      go_wp2
      go_ret2
      exact ⟨ret_uu eF.out, rfl⟩

end Go.Proofs.Ytcfidibkihkndaa
