import Derived.Test.YtoofjcpapidgdaaBl3
import Derived.Test.YtoofjcpapidgdaaBig
/- Layer 2: BitsPuts. -/
namespace Go.Proofs.Ytoofjcpapidgdaa
open Go.RowKit
set_option linter.unusedVariables false

theorem wref_in (W : World) (s : ByteArray) (a : Int) (w : World) (h : Below W.heap.size W w) : Calls Try.prog 25 #[.agg #[.string s, .int .i64 a]] w fun e w' => e = .returned (.agg #[.string s, .int .i64 a]) ∧ Below W.heap.size W w' :=
  (wref_any s a w).mono fun _ _ ⟨he, hb⟩ => ⟨he, bq_trans h hb⟩
theorem putalign_in (W : World) (s : ByteArray) (a : Int) (w : World) (h : Below W.heap.size W w) : Calls Try.prog 29 #[.agg #[.string s, .int .i64 a]] w fun e w' => e = .returned (.agg #[.string s, .int .i64 0]) ∧ Below W.heap.size W w' :=
  (putalign_any s a w).mono fun _ _ ⟨he, hb⟩ => ⟨he, bq_trans h hb⟩
attribute [local go_sem ↓] Go.wp_at_zero Go.wp_at_succ
set_option maxRecDepth 100000 in
set_option maxHeartbeats 8000000 in
theorem puts_core (s ua ub uc : ByteArray) (f v n Aa Ab Ac Ea Eb Ec : Int) (ba bb bc : Bool) (w : World) (hs : s.size ≤ 1024)
    (ea : ba = true ∧ (Ea == 0) = true ∨ ba = false ∧ Ea = 1) (eb : bb = true ∧ (Eb == 0) = true ∨ bb = false ∧ Eb = 1) (ec : bc = true ∧ (Ec == 0) = true ∨ bc = false ∧ Ec = 1)
    (P1 : Hid (∀ w, Calls Try.prog 21 #[.agg #[.string s, .int .i64 f], .int .i64 v, .int .i64 n] w fun e w' => e = .returned (.tuple #[.agg #[.string ua, .int .i64 Aa], .int .i64 Ea]) ∧ Below w.heap.size w w'))
    (P2 : Hid (∀ w, Calls Try.prog 22 #[.agg #[.string s, .int .i64 f], .int .i64 v, .int .i64 n] w fun e w' => e = .returned (.tuple #[.agg #[.string ub, .int .i64 Ab], .int .i64 Eb]) ∧ Below w.heap.size w w'))
    (P3 : Hid (∀ w, Calls Try.prog 23 #[.agg #[.string s, .int .i64 f], .int .i64 v, .int .i64 n] w fun e w' => e = .returned (.tuple #[.agg #[.string uc, .int .i64 Ac], .int .i64 Ec]) ∧ Below w.heap.size w w'))
    (P4 : Hid (∀ w, Calls Try.prog 24 #[.agg #[.string s, .int .i64 f], .int .i64 v, .int .i64 n] w fun e w' => e = .returned (.tuple #[.agg #[.string ua, .int .i64 Aa], .bool ba]) ∧ Below w.heap.size w w'))
    (P5 : Hid (∀ w, Calls Try.prog 26 #[.agg #[.string s, .int .i64 f], .int .i64 v, .int .i64 n] w fun e w' => e = .returned (.tuple #[.agg #[.string ub, .int .i64 Ab], .bool bb]) ∧ Below w.heap.size w w'))
    (P6 : Hid (∀ w, Calls Try.prog 27 #[.agg #[.string s, .int .i64 f], .int .i64 v, .int .i64 n] w fun e w' => e = .returned (.tuple #[.agg #[.string uc, .int .i64 Ac], .bool bc]) ∧ Below w.heap.size w w')) :
    Calls Try.prog 5 #[.agg #[.string s, .int .i64 f], .int .i64 v, .int .i64 n] w fun e w' => e = .returned (.bool true) ∧ Below w.heap.size w w' := by
  have p1 : decide (1024 < (s.size : Int)) = false := by simp; omega
  go_enter Try.func5, Try.ntmps5
  go_wp2_with fail
  refine (P1.out _).mono ?_
  rintro e w1 ⟨rfl, hb⟩
  obtain ⟨R1, HB1⟩ := box1_kept hb
  obtain ⟨c0, c1, f0, f1, cz⟩ := R1
  have HH := Lib.hid HB1
  clear hb HB1
  go_wp2_with fail
  have Ba := Lib.hid (box_new w1 (.string ua) (.int .i64 Aa) 40)
  have RN := Box.alloc ⟨c0, c1, f0, f1, cz⟩ (.cells #[.string ua, .int .i64 Aa] 40)
  have HHn := Lib.hid (bq_alloc HH.out (.cells #[.string ua, .int .i64 Aa] 40))
  have lta : w1.heap.size < (w1.alloc (.cells #[.string ua, .int .i64 Aa] 40)).heap.size := by simp
  clear HH c0 c1 f0 f1 cz
  generalize w1.alloc (.cells #[.string ua, .int .i64 Aa] 40) = W1 at Ba RN HHn lta ⊢
  obtain ⟨c0, c1, f0, f1, cz⟩ := RN
  have HH := HHn
  clear HHn
  refine (P2.out _).mono ?_
  rintro e w2 ⟨rfl, hb⟩
  have RN := Box.keep ⟨c0, c1, f0, f1, cz⟩ hb
  have Ban := Lib.hid (Ba.out.keep hb)
  have HHn := Lib.hid (bq_trans HH.out hb)
  clear HH hb c0 c1 f0 f1 cz Ba
  obtain ⟨c0, c1, f0, f1, cz⟩ := RN
  have HH := HHn
  have Ba := Ban
  clear HHn Ban
  go_wp2_with fail
  have Bb := Lib.hid (box_new w2 (.string ub) (.int .i64 Ab) 40)
  have Ban := Lib.hid (Ba.out.alloc (.cells #[.string ub, .int .i64 Ab] 40))
  have RN := Box.alloc ⟨c0, c1, f0, f1, cz⟩ (.cells #[.string ub, .int .i64 Ab] 40)
  have HHn := Lib.hid (bq_alloc HH.out (.cells #[.string ub, .int .i64 Ab] 40))
  have ltb : w2.heap.size < (w2.alloc (.cells #[.string ub, .int .i64 Ab] 40)).heap.size := by simp
  clear HH c0 c1 f0 f1 cz Ba
  generalize w2.alloc (.cells #[.string ub, .int .i64 Ab] 40) = W2 at Bb Ban RN HHn ltb ⊢
  obtain ⟨c0, c1, f0, f1, cz⟩ := RN
  have HH := HHn
  have Ba := Ban
  clear HHn Ban
  refine (P3.out _).mono ?_
  rintro e w3 ⟨rfl, hb⟩
  have RN := Box.keep ⟨c0, c1, f0, f1, cz⟩ hb
  have Ban := Lib.hid (Ba.out.keep hb)
  have Bbn := Lib.hid (Bb.out.keep hb)
  have HHn := Lib.hid (bq_trans HH.out hb)
  clear HH hb c0 c1 f0 f1 cz Ba Bb
  obtain ⟨c0, c1, f0, f1, cz⟩ := RN
  have HH := HHn
  have Ba := Ban
  have Bb := Bbn
  clear HHn Ban Bbn
  go_wp2_with fail
  have Bc := Lib.hid (box_new w3 (.string uc) (.int .i64 Ac) 40)
  have Ban := Lib.hid (Ba.out.alloc (.cells #[.string uc, .int .i64 Ac] 40))
  have Bbn := Lib.hid (Bb.out.alloc (.cells #[.string uc, .int .i64 Ac] 40))
  have RN := Box.alloc ⟨c0, c1, f0, f1, cz⟩ (.cells #[.string uc, .int .i64 Ac] 40)
  have HHn := Lib.hid (bq_alloc HH.out (.cells #[.string uc, .int .i64 Ac] 40))
  have ltc : w3.heap.size < (w3.alloc (.cells #[.string uc, .int .i64 Ac] 40)).heap.size := by simp
  clear HH c0 c1 f0 f1 cz Ba Bb
  generalize w3.alloc (.cells #[.string uc, .int .i64 Ac] 40) = W3 at Bc Ban Bbn RN HHn ltc ⊢
  obtain ⟨c0, c1, f0, f1, cz⟩ := RN
  have HH := HHn
  have Ba := Ban
  have Bb := Bbn
  clear HHn Ban Bbn
  refine (wref_any s f _).mono ?_
  rintro e w4 ⟨rfl, hb⟩
  have RN := Box.keep ⟨c0, c1, f0, f1, cz⟩ hb
  have Ban := Lib.hid (Ba.out.keep hb)
  have Bbn := Lib.hid (Bb.out.keep hb)
  have Bcn := Lib.hid (Bc.out.keep hb)
  have HHn := Lib.hid (bq_trans HH.out hb)
  clear HH hb c0 c1 f0 f1 cz Ba Bb Bc
  obtain ⟨c0, c1, f0, f1, cz⟩ := RN
  have HH := HHn
  have Ba := Ban
  have Bb := Bbn
  have Bc := Bcn
  clear HHn Ban Bbn Bcn
  go_wp2_with fail
  refine (P4.out _).mono ?_
  rintro e w5 ⟨rfl, hb⟩
  have RN := Box.keep ⟨c0, c1, f0, f1, cz⟩ hb
  have Ban := Lib.hid (Ba.out.keep hb)
  have Bbn := Lib.hid (Bb.out.keep hb)
  have Bcn := Lib.hid (Bc.out.keep hb)
  have HHn := Lib.hid (bq_trans HH.out hb)
  clear HH hb c0 c1 f0 f1 cz Ba Bb Bc
  obtain ⟨c0, c1, f0, f1, cz⟩ := RN
  have HH := HHn
  have Ba := Ban
  have Bb := Bbn
  have Bc := Bcn
  clear HHn Ban Bbn Bcn
  go_wp2_with fail
  have Bx := Lib.hid (box_new w5 (.string ua) (.int .i64 Aa) 43)
  have Ban := Lib.hid (Ba.out.alloc (.cells #[.string ua, .int .i64 Aa] 43))
  have Bbn := Lib.hid (Bb.out.alloc (.cells #[.string ua, .int .i64 Aa] 43))
  have Bcn := Lib.hid (Bc.out.alloc (.cells #[.string ua, .int .i64 Aa] 43))
  have RN := Box.alloc ⟨c0, c1, f0, f1, cz⟩ (.cells #[.string ua, .int .i64 Aa] 43)
  have HHn := Lib.hid (bq_alloc HH.out (.cells #[.string ua, .int .i64 Aa] 43))
  have ltx : w5.heap.size < (w5.alloc (.cells #[.string ua, .int .i64 Aa] 43)).heap.size := by simp
  clear HH c0 c1 f0 f1 cz Ba Bb Bc
  generalize w5.alloc (.cells #[.string ua, .int .i64 Aa] 43) = W5 at Bx Ban Bbn Bcn RN HHn ltx ⊢
  obtain ⟨c0, c1, f0, f1, cz⟩ := RN
  have HH := HHn
  have Ba := Ban
  have Bb := Bbn
  have Bc := Bcn
  clear HHn Ban Bbn Bcn
  refine (wref_any s f _).mono ?_
  rintro e w6 ⟨rfl, hb⟩
  have RN := Box.keep ⟨c0, c1, f0, f1, cz⟩ hb
  have Ban := Lib.hid (Ba.out.keep hb)
  have Bbn := Lib.hid (Bb.out.keep hb)
  have Bcn := Lib.hid (Bc.out.keep hb)
  have Bxn := Lib.hid (Bx.out.keep hb)
  have HHn := Lib.hid (bq_trans HH.out hb)
  clear HH hb c0 c1 f0 f1 cz Ba Bb Bc Bx
  obtain ⟨c0, c1, f0, f1, cz⟩ := RN
  have HH := HHn
  have Ba := Ban
  have Bb := Bbn
  have Bc := Bcn
  have Bx := Bxn
  clear HHn Ban Bbn Bcn Bxn
  go_wp2_with fail
  refine (P5.out _).mono ?_
  rintro e w7 ⟨rfl, hb⟩
  have RN := Box.keep ⟨c0, c1, f0, f1, cz⟩ hb
  have Ban := Lib.hid (Ba.out.keep hb)
  have Bbn := Lib.hid (Bb.out.keep hb)
  have Bcn := Lib.hid (Bc.out.keep hb)
  have Bxn := Lib.hid (Bx.out.keep hb)
  have HHn := Lib.hid (bq_trans HH.out hb)
  clear HH hb c0 c1 f0 f1 cz Ba Bb Bc Bx
  obtain ⟨c0, c1, f0, f1, cz⟩ := RN
  have HH := HHn
  have Ba := Ban
  have Bb := Bbn
  have Bc := Bcn
  have Bx := Bxn
  clear HHn Ban Bbn Bcn Bxn
  go_wp2_with fail
  have By := Lib.hid (box_new w7 (.string ub) (.int .i64 Ab) 43)
  have Ban := Lib.hid (Ba.out.alloc (.cells #[.string ub, .int .i64 Ab] 43))
  have Bbn := Lib.hid (Bb.out.alloc (.cells #[.string ub, .int .i64 Ab] 43))
  have Bcn := Lib.hid (Bc.out.alloc (.cells #[.string ub, .int .i64 Ab] 43))
  have Bxn := Lib.hid (Bx.out.alloc (.cells #[.string ub, .int .i64 Ab] 43))
  have RN := Box.alloc ⟨c0, c1, f0, f1, cz⟩ (.cells #[.string ub, .int .i64 Ab] 43)
  have HHn := Lib.hid (bq_alloc HH.out (.cells #[.string ub, .int .i64 Ab] 43))
  have lty : w7.heap.size < (w7.alloc (.cells #[.string ub, .int .i64 Ab] 43)).heap.size := by simp
  clear HH c0 c1 f0 f1 cz Ba Bb Bc Bx
  generalize w7.alloc (.cells #[.string ub, .int .i64 Ab] 43) = W7 at By Ban Bbn Bcn Bxn RN HHn lty ⊢
  obtain ⟨c0, c1, f0, f1, cz⟩ := RN
  have HH := HHn
  have Ba := Ban
  have Bb := Bbn
  have Bc := Bcn
  have Bx := Bxn
  clear HHn Ban Bbn Bcn Bxn
  refine (wref_any s f _).mono ?_
  rintro e w8 ⟨rfl, hb⟩
  have RN := Box.keep ⟨c0, c1, f0, f1, cz⟩ hb
  have Ban := Lib.hid (Ba.out.keep hb)
  have Bbn := Lib.hid (Bb.out.keep hb)
  have Bcn := Lib.hid (Bc.out.keep hb)
  have Bxn := Lib.hid (Bx.out.keep hb)
  have Byn := Lib.hid (By.out.keep hb)
  have HHn := Lib.hid (bq_trans HH.out hb)
  clear HH hb c0 c1 f0 f1 cz Ba Bb Bc Bx By
  obtain ⟨c0, c1, f0, f1, cz⟩ := RN
  have HH := HHn
  have Ba := Ban
  have Bb := Bbn
  have Bc := Bcn
  have Bx := Bxn
  have By := Byn
  clear HHn Ban Bbn Bcn Bxn Byn
  go_wp2_with fail
  refine (P6.out _).mono ?_
  rintro e w9 ⟨rfl, hb⟩
  have RN := Box.keep ⟨c0, c1, f0, f1, cz⟩ hb
  have Ban := Lib.hid (Ba.out.keep hb)
  have Bbn := Lib.hid (Bb.out.keep hb)
  have Bcn := Lib.hid (Bc.out.keep hb)
  have Bxn := Lib.hid (Bx.out.keep hb)
  have Byn := Lib.hid (By.out.keep hb)
  have HHn := Lib.hid (bq_trans HH.out hb)
  clear HH hb c0 c1 f0 f1 cz Ba Bb Bc Bx By
  obtain ⟨c0, c1, f0, f1, cz⟩ := RN
  have HH := HHn
  have Ba := Ban
  have Bb := Bbn
  have Bc := Bcn
  have Bx := Bxn
  have By := Byn
  clear HHn Ban Bbn Bcn Bxn Byn
  go_upto_region 9 with (fail)
  have Bz := Lib.hid (box_new w9 (.string uc) (.int .i64 Ac) 43)
  have Ban := Lib.hid (Ba.out.alloc (.cells #[.string uc, .int .i64 Ac] 43))
  have Bbn := Lib.hid (Bb.out.alloc (.cells #[.string uc, .int .i64 Ac] 43))
  have Bcn := Lib.hid (Bc.out.alloc (.cells #[.string uc, .int .i64 Ac] 43))
  have Bxn := Lib.hid (Bx.out.alloc (.cells #[.string uc, .int .i64 Ac] 43))
  have Byn := Lib.hid (By.out.alloc (.cells #[.string uc, .int .i64 Ac] 43))
  have RN := Box.alloc ⟨c0, c1, f0, f1, cz⟩ (.cells #[.string uc, .int .i64 Ac] 43)
  have HHn := Lib.hid (bq_alloc HH.out (.cells #[.string uc, .int .i64 Ac] 43))
  have ltz : w9.heap.size < (w9.alloc (.cells #[.string uc, .int .i64 Ac] 43)).heap.size := by simp
  clear HH c0 c1 f0 f1 cz Ba Bb Bc Bx By
  generalize w9.alloc (.cells #[.string uc, .int .i64 Ac] 43) = W9 at Bz Ban Bbn Bcn Bxn Byn RN HHn ltz ⊢
  obtain ⟨c0, c1, f0, f1, cz⟩ := RN
  have HH := HHn
  have Ba := Ban
  have Bb := Bbn
  have Bc := Bcn
  have Bx := Bxn
  have By := Byn
  clear HHn Ban Bbn Bcn Bxn Byn
  go_cut [109] (fun x wx => x = .bool false ∧ W9 = wx)
  case first =>
    cases ba <;> cases bb <;> cases bc
    all_goals
      simp only [Bool.false_eq_true, false_and, or_false, false_or, true_and, reduceCtorEq] at ea eb ec
      try subst ea
      try subst eb
      try subst ec
      go_wp2_with fail
      go_meet
      case rel => exact ⟨rfl, rfl⟩
  case rest =>
    obtain ⟨rfl, rfl⟩ := hcut
    clear ea eb ec P1 P2 P3 P4 P5 P6
    have hxy : (⟨#[120, 121]⟩ : ByteArray).size ≤ 1099511627776 := by decide
    have PB := Lib.hid (fun w => putbytes_any s ⟨#[120, 121]⟩ f w (by omega) hxy)
    clear hxy
    go_wp2_with fail
    refine (PB.out _).mono ?_
    rintro e w10 ⟨rfl, hb⟩
    have RN := Box.keep ⟨c0, c1, f0, f1, cz⟩ hb
    have Ban := Lib.hid (Ba.out.keep hb)
    have Bbn := Lib.hid (Bb.out.keep hb)
    have Bcn := Lib.hid (Bc.out.keep hb)
    have Bxn := Lib.hid (Bx.out.keep hb)
    have Byn := Lib.hid (By.out.keep hb)
    have Bzn := Lib.hid (Bz.out.keep hb)
    have HHn := Lib.hid (bq_trans HH.out hb)
    clear HH hb c0 c1 f0 f1 cz Ba Bb Bc Bx By Bz
    obtain ⟨c0, c1, f0, f1, cz⟩ := RN
    have HH := HHn
    have Ba := Ban
    have Bb := Bbn
    have Bc := Bcn
    have Bx := Bxn
    have By := Byn
    have Bz := Bzn
    clear HHn Ban Bbn Bcn Bxn Byn Bzn
    go_wp2_with fail
    have Bd := Lib.hid (box_new w10 (.string (s ++ ⟨#[120, 121]⟩)) (.int .i64 0) 40)
    have Ban := Lib.hid (Ba.out.alloc (.cells #[.string (s ++ ⟨#[120, 121]⟩), .int .i64 0] 40))
    have Bbn := Lib.hid (Bb.out.alloc (.cells #[.string (s ++ ⟨#[120, 121]⟩), .int .i64 0] 40))
    have Bcn := Lib.hid (Bc.out.alloc (.cells #[.string (s ++ ⟨#[120, 121]⟩), .int .i64 0] 40))
    have Bxn := Lib.hid (Bx.out.alloc (.cells #[.string (s ++ ⟨#[120, 121]⟩), .int .i64 0] 40))
    have Byn := Lib.hid (By.out.alloc (.cells #[.string (s ++ ⟨#[120, 121]⟩), .int .i64 0] 40))
    have Bzn := Lib.hid (Bz.out.alloc (.cells #[.string (s ++ ⟨#[120, 121]⟩), .int .i64 0] 40))
    have RN := Box.alloc ⟨c0, c1, f0, f1, cz⟩ (.cells #[.string (s ++ ⟨#[120, 121]⟩), .int .i64 0] 40)
    have HHn := Lib.hid (bq_alloc HH.out (.cells #[.string (s ++ ⟨#[120, 121]⟩), .int .i64 0] 40))
    have ltd : w10.heap.size < (w10.alloc (.cells #[.string (s ++ ⟨#[120, 121]⟩), .int .i64 0] 40)).heap.size := by simp
    clear HH c0 c1 f0 f1 cz Ba Bb Bc Bx By Bz
    generalize w10.alloc (.cells #[.string (s ++ ⟨#[120, 121]⟩), .int .i64 0] 40) = W10 at Bd Ban Bbn Bcn Bxn Byn Bzn RN HHn ltd ⊢
    obtain ⟨c0, c1, f0, f1, cz⟩ := RN
    have HH := HHn
    have Ba := Ban
    have Bb := Bbn
    have Bc := Bcn
    have Bx := Bxn
    have By := Byn
    have Bz := Bzn
    clear HHn Ban Bbn Bcn Bxn Byn Bzn
    have Br := Lib.hid (show Box _ _ _ _ from ⟨c0, c1, f0, f1, cz⟩)
    have HS : Hid (∀ w', Below W10.heap.size W10 w' → w'.cell? ⟨w.heap.size, 0, none⟩ = some (.string s) ∧ w'.cell? ⟨w.heap.size, 1, none⟩ = some (.int .i64 f) ∧ w'.cell? ⟨w1.heap.size, 0, none⟩ = some (.string ua) ∧ w'.cell? ⟨w1.heap.size, 1, none⟩ = some (.int .i64 Aa) ∧ w'.cell? ⟨w5.heap.size, 0, none⟩ = some (.string ua) ∧ w'.cell? ⟨w5.heap.size, 1, none⟩ = some (.int .i64 Aa) ∧ w'.cell? ⟨w2.heap.size, 0, none⟩ = some (.string ub) ∧ w'.cell? ⟨w2.heap.size, 1, none⟩ = some (.int .i64 Ab) ∧ w'.cell? ⟨w7.heap.size, 0, none⟩ = some (.string ub) ∧ w'.cell? ⟨w7.heap.size, 1, none⟩ = some (.int .i64 Ab) ∧ w'.cell? ⟨w3.heap.size, 0, none⟩ = some (.string uc) ∧ w'.cell? ⟨w3.heap.size, 1, none⟩ = some (.int .i64 Ac) ∧ w'.cell? ⟨w9.heap.size, 0, none⟩ = some (.string uc) ∧ w'.cell? ⟨w9.heap.size, 1, none⟩ = some (.int .i64 Ac) ∧ w'.cell? ⟨w10.heap.size, 0, none⟩ = some (.string (s ++ ⟨#[120, 121]⟩)) ∧ w'.cell? ⟨w10.heap.size, 1, none⟩ = some (.int .i64 0)) := Lib.hid (fun w' h => by
      have kr := Br.out.keep h
      have ka := Ba.out.keep h
      have kx := Bx.out.keep h
      have kb := Bb.out.keep h
      have ky := By.out.keep h
      have kc := Bc.out.keep h
      have kz := Bz.out.keep h
      have kd := Bd.out.keep h
      exact ⟨kr.1, kr.2.1, ka.1, ka.2.1, kx.1, kx.2.1, kb.1, kb.2.1, ky.1, ky.2.1, kc.1, kc.2.1, kz.1, kz.2.1, kd.1, kd.2.1⟩)
    have hd0 : Below W10.heap.size W10 W10.drew := bq_drew (bq_refl _)
    clear c0 c1 f0 f1 cz PB Br Ba Bx Bb By Bc Bz Bd
    have hnl : ¬ 9223372036854775807 < s.size + 2 := by omega
    go_region_held3 (fun w' => w'.cell? ⟨w.heap.size, 0, none⟩ = some (.string s) ∧ w'.cell? ⟨w.heap.size, 1, none⟩ = some (.int .i64 f) ∧ w'.cell? ⟨w1.heap.size, 0, none⟩ = some (.string ua) ∧ w'.cell? ⟨w1.heap.size, 1, none⟩ = some (.int .i64 Aa) ∧ w'.cell? ⟨w5.heap.size, 0, none⟩ = some (.string ua) ∧ w'.cell? ⟨w5.heap.size, 1, none⟩ = some (.int .i64 Aa) ∧ w'.cell? ⟨w2.heap.size, 0, none⟩ = some (.string ub) ∧ w'.cell? ⟨w2.heap.size, 1, none⟩ = some (.int .i64 Ab) ∧ w'.cell? ⟨w7.heap.size, 0, none⟩ = some (.string ub) ∧ w'.cell? ⟨w7.heap.size, 1, none⟩ = some (.int .i64 Ab) ∧ w'.cell? ⟨w3.heap.size, 0, none⟩ = some (.string uc) ∧ w'.cell? ⟨w3.heap.size, 1, none⟩ = some (.int .i64 Ac) ∧ w'.cell? ⟨w9.heap.size, 0, none⟩ = some (.string uc) ∧ w'.cell? ⟨w9.heap.size, 1, none⟩ = some (.int .i64 Ac) ∧ w'.cell? ⟨w10.heap.size, 0, none⟩ = some (.string (s ++ ⟨#[120, 121]⟩)) ∧ w'.cell? ⟨w10.heap.size, 1, none⟩ = some (.int .i64 0)) (first | exact HS.out _ (by assumption))
      (first | (go_at_call 25; refine (wref_in W10 _ _ _ (by assumption)).mono ?_; rintro e wz ⟨rfl, hbz⟩) | (go_at_call 29; refine (putalign_in W10 _ _ _ (by assumption)).mono ?_; rintro e wz ⟨rfl, hbz⟩) | (go_at_call 9; refine (awake_in W10 _ (by assumption)).mono ?_; rintro e wz ⟨rfl, hbz⟩))
    all_goals
      go_wp2
      go_ret
      exact ⟨rfl, bq_trans HH.out (by assumption)⟩
theorem puts_out (s : ByteArray) (f v n : Int) (w : World) (hs : s.size ≤ 9223372036854775807) (h1 : 1024 < s.size) :
    Calls Try.prog 5 #[.agg #[.string s, .int .i64 f], .int .i64 v, .int .i64 n] w fun e w' => e = .returned (.bool true) ∧ Below w.heap.size w w' := by
  go_enter Try.func5, Try.ntmps5
  go_wp2_with (go_at_call 9; refine (awake_any _).mono ?_; rintro e w3 ⟨rfl, hb3⟩)
  go_ret
  exact ⟨rfl, bq_trans (bq_alloc (bq_refl w) _) (by assumption)⟩
theorem put_forms (ok : Bool) (u : ByteArray) (A : Int) : ∃ ua Aa Ea ba, (if ok = true then Value.tuple #[.agg #[.string u, .int .i64 A], .int .i64 0] else errW) = .tuple #[.agg #[.string ua, .int .i64 Aa], .int .i64 Ea] ∧
    (if ok = true then Value.tuple #[.agg #[.string u, .int .i64 A], .bool true] else errF) = .tuple #[.agg #[.string ua, .int .i64 Aa], .bool ba] ∧ (ba = true ∧ (Ea == 0) = true ∨ ba = false ∧ Ea = 1) := by
  cases ok
  · exact ⟨⟨#[]⟩, 0, 1, false, rfl, rfl, Or.inr ⟨rfl, rfl⟩⟩
  · exact ⟨u, A, 0, true, rfl, rfl, Or.inl ⟨rfl, rfl⟩⟩
theorem bitsPuts_walk (s : ByteArray) (f v n : Int) (w : World) (hs : s.size ≤ maxLen) (v0 : -9223372036854775808 ≤ v) (v1 : v ≤ 9223372036854775807) :
    Calls Try.prog 5 #[.agg #[.string s, .int .i64 f], .int .i64 v, .int .i64 n] w fun e w' => e = .returned (.bool true) ∧ Below w.heap.size w w' := by
  by_cases h : 1024 < s.size
  · exact puts_out s f v n w hs h
  · have hs2 : s.size ≤ 1099511627776 := by omega
    have hs3 : s.size ≤ 1000000 := by omega
    have P1 := fun w => putplain_any s f v n w hs2
    have P2 := fun w => putsigned_any s f v n w hs2 v0 v1
    have P3 := fun w => putlittle_any s f v n w hs2
    have P4 := fun w => refputplain_any s f v n w hs3
    have P5 := fun w => refputsigned_any s f v n w hs3 v0 v1
    have P6 := fun w => refputlittle_any s f v n w hs3
    unfold ppR at P1 P2
    unfold rpR at P4 P5
    unfold ltR at P3
    unfold rlR at P6
    obtain ⟨ua, Aa, Ea, ba, e1, e2, e3⟩ := put_forms (ppOk v n) (bs (B.putL s.data.toList (nf s f) v.toNat n.toNat)) (B.putF s.size (nf s f) n.toNat : Int)
    obtain ⟨ub, Ab, Eb, bb, d1, d2, d3⟩ := put_forms (psOk v n) (bs (B.putL s.data.toList (nf s f) (sgU v n.toNat) n.toNat)) (B.putF s.size (nf s f) n.toNat : Int)
    obtain ⟨uc, Ac, Ec, bc, c1, c2, c3⟩ := put_forms (ltOk v n) (s ++ bs (B.le n.toNat v.toNat)) 0
    rw [e1] at P1
    rw [e2] at P4
    rw [d1] at P2
    rw [d2] at P5
    rw [c1] at P3
    rw [c2] at P6
    exact puts_core s ua ub uc f v n Aa Ab Ac Ea Eb Ec ba bb bc w (by omega) e3 d3 c3 (Lib.hid P1) (Lib.hid P2) (Lib.hid P3) (Lib.hid P4) (Lib.hid P5) (Lib.hid P6)
end Go.Proofs.Ytoofjcpapidgdaa
