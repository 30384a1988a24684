import Derived.Test.YtddiccdfeckgaaaQ7
/- Layer 6: codes are written. -/
namespace Go.Proofs.Ytddiccdfeckgaaa
open Go.RowKit
set_option maxRecDepth 100000
set_option linter.unusedVariables false
set_option linter.unusedSimpArgs false
/-- a byte's bits, turned about -/
def D.rv8 (i : Nat) : Nat := D.val (D.hb i 8)
theorem ofInt_u16 (a : Nat) (h : a < 65536) : (BitVec.ofInt 16 (a : Int)).toNat = a := by
  rw [BitVec.toNat_ofInt]; omega
theorem and255 (v lo : Nat) (hv : v < 65536) (hl : lo = v % 256) : bits .and .u16 (v : Int) 255 = (lo : Int) := by
  show IntKind.u16.wrap ((BitVec.ofInt 16 (v : Int) &&& BitVec.ofInt 16 255).toNat : Int) = _
  have e := ofInt_u16 255 (by omega)
  rw [BitVec.toNat_and, ofInt_u16 v hv, show (BitVec.ofInt 16 255).toNat = 255 from e, show v &&& 255 = v % 256 from Nat.and_two_pow_sub_one_eq_mod v 8, ← hl]
  simp [IntKind.wrap, IntKind.bits, IntKind.signed]
  omega
theorem or_u16 (x y : Nat) (hx : x < 256) (hy : y < 256) : bits .or .u16 (x : Int) (((256 * y : Nat)) : Int) = ((x + 256 * y : Nat) : Int) := by
  show IntKind.u16.wrap ((BitVec.ofInt 16 (x : Int) ||| BitVec.ofInt 16 ((256 * y : Nat) : Int)).toNat : Int) = _
  rw [BitVec.toNat_or, ofInt_u16 x (by omega), ofInt_u16 (256 * y) (by omega)]
  have := Nat.shiftLeft_add_eq_or_of_lt (i := 8) (b := x) (by omega) y
  rw [Nat.shiftLeft_eq, show (2 : Nat) ^ 8 = 256 by decide] at this
  rw [Nat.or_comm, show 256 * y = y * 256 by omega, ← this]
  simp [IntKind.wrap, IntKind.bits, IntKind.signed]
  omega
set_option maxHeartbeats 2000000 in
theorem rev16_any (v : Nat) (hv : v < 512) (w : World) :
    Calls Try.prog 41 #[.int .u16 (v : Int)] w fun e w' => e = .returned (.int .u16 ((D.rv8 (v / 256) + 256 * D.rv8 (v % 256) : Nat) : Int)) ∧ ∃ n, w' = w.drewN n := by
  obtain ⟨hi, hhi⟩ : ∃ x, x = v / 256 := ⟨_, rfl⟩
  obtain ⟨lo, hlo⟩ : ∃ x, x = v % 256 := ⟨_, rfl⟩
  rw [← hhi, ← hlo]
  have hi9 : hi < 256 := by omega
  have lo9 : lo < 256 := by omega
  have es : (v : Int) / 256 = (hi : Int) := by omega
  have ea := and255 v lo (by omega) hlo
  go_enter Try.func41, Try.ntmps41
  go_upto_region 1 with (fail)
  generalize hT : ByteArray.mk _ = tb
  have hts : tb.size = 256 := by rw [← hT]; rfl
  have htab : ∀ i (h : i < tb.size), tb[i].toNat = D.rv8 i := by
    subst hT
    decide +kernel
  have HT := Lib.hid htab
  have j1 : hi < tb.size := by omega
  have j2 : lo < tb.size := by omega
  have hX : tb[hi].toNat = D.rv8 hi := htab hi j1
  have hY : tb[lo].toNat = D.rv8 lo := htab lo j2
  have i1 : (hi : Int) < (tb.size : Int) := by omega
  have i2 : (lo : Int) < (tb.size : Int) := by omega
  have hX9 := tb[hi].toNat_lt
  have hY9 := tb[lo].toNat_lt
  rw [hX] at hX9
  rw [hY] at hY9
  generalize hXe : D.rv8 hi = X at *
  generalize hYe : D.rv8 lo = Y at *
  have HE := Lib.hid (And.intro hXe hYe)
  clear hXe hYe
  have HOR := or_u16 X Y hX9 hY9
  have HSH : IntKind.u16.wrap ((Y : Int) * 256) = ((256 * Y : Nat) : Int) := by simp [IntKind.wrap, IntKind.bits, IntKind.signed]; omega
  have HW1 : IntKind.u16.wrap (X : Int) = (X : Int) := by simp [IntKind.wrap, IntKind.bits, IntKind.signed]; omega
  have HW2 : IntKind.u16.wrap (Y : Int) = (Y : Int) := by simp [IntKind.wrap, IntKind.bits, IntKind.signed]; omega
  clear hT htab hhi hlo HT
  go_quiet (fail)
  go_wp2
  go_ret
  refine ⟨?_, nq, rfl⟩
  rw [HE.out.1, HE.out.2]
  show Ending.returned (Value.int .u16 (bits .or .u16 (X : Int) (256 * (Y : Int)))) = _
  rw [show (256 * (Y : Int)) = ((256 * Y : Nat) : Int) by omega, HOR]
theorem D.nb_val : ∀ l : List Nat, (∀ x ∈ l, x < 2) → D.nb (D.val l) l.length = l
  | [], _ => rfl
  | x :: r, h => by
    have hx := h x List.mem_cons_self
    rw [List.length_cons, D.nb, D.val, show (x + 2 * D.val r) / 2 = D.val r by omega, show (x + 2 * D.val r) % 2 = x by omega, D.nb_val r (fun y hy => h y (List.mem_cons_of_mem _ hy))]
theorem D.hb_len (v n : Nat) : (D.hb v n).length = n := by unfold D.hb; rw [List.length_reverse, D.nb_len]
theorem D.hb_bit (v n : Nat) : ∀ x ∈ D.hb v n, x < 2 := fun x hx => D.nb_bit v n x (by unfold D.hb at hx; exact List.mem_reverse.1 hx)
theorem D.nb_hb (v n : Nat) : D.nb (D.val (D.hb v n)) n = D.hb v n := by
  have := D.nb_val (D.hb v n) (D.hb_bit v n)
  rwa [D.hb_len] at this
theorem D.hb_lt (v n : Nat) : D.val (D.hb v n) < D.two n := by
  have := D.val_lt (D.hb v n) (D.hb_bit v n)
  rwa [D.hb_len] at this
theorem D.rev_5 (v : Nat) (h : v < 32) : (D.rv8 (v / 256) + 256 * D.rv8 (v % 256)) / 2048 = D.val (D.hb v 5) := by
  have : ∀ v : Fin 32, (D.rv8 ((v : Nat) / 256) + 256 * D.rv8 ((v : Nat) % 256)) / 2048 = D.val (D.hb v 5) := by decide +kernel
  exact this ⟨v, h⟩
theorem code_5 {w : World} {B b : Nat} {sl : Value} {L : List Nat} (h : Pk w B b sl L) (v : Nat) (hv : v < 32) (hL : L.length ≤ 8000000) :
    Calls Try.prog 36 #[.pointer (some ⟨b, 0, none⟩), .int .i64 (v : Int), .int .i64 5] w fun e w' => e = .returned (.tuple #[]) ∧ ∃ sl', Pk w' B b sl' (L ++ D.hb v 5) ∧ Kb b sl w w' sl' := by
  have hr := D.rev_5 v hv
  have hy := D.hb_lt v 5
  have HRV := Lib.hid (fun W => rev16_any v (by omega) W)
  have HNM := Lib.hid (fun m => number6_any (w := w.drewN m) ⟨h.1.keep (bq_drewN (bq_refl w) m), h.2⟩ (D.val (D.hb v 5)) 5 (by omega) hy hL)
  rw [D.nb_hb v 5] at HNM
  have hxb : D.rv8 (v / 256) + 256 * D.rv8 (v % 256) < 65536 := by
    have h1 := D.hb_lt (v / 256) 8
    have h2 := D.hb_lt (v % 256) 8
    have h3 : D.two 8 = 256 := by decide
    unfold D.rv8
    omega
  have hy2 : D.val (D.hb v 5) < 32 := Nat.lt_of_lt_of_eq hy (by decide)
  generalize D.rv8 (v / 256) + 256 * D.rv8 (v % 256) = x at *
  generalize D.val (D.hb v 5) = y at *
  have es : (x : Int) / 2048 = (y : Int) := by omega
  have hw : IntKind.u16.wrap (v : Int) = (v : Int) := by simp [IntKind.wrap, IntKind.bits, IntKind.signed]; omega
  have hw2 : IntKind.i64.wrap (y : Int) = (y : Int) := i64_wrap _ (by omega) (by omega)
  clear h hr hy hxb
  go_enter Try.func36, Try.ntmps36
  go_wp2_with (first
    | (go_at_call 41; refine (HRV.out _).mono ?_; rintro e w1 ⟨rfl, m, rfl⟩)
    | (go_at_call 34; refine (HNM.out _).mono ?_; rintro e w2 ⟨rfl, sl2, hP, hK⟩))
  go_end0
  exact ⟨rfl, sl2, hP, (Kb.of_below b sl (bq_drewN (bq_refl w) m)).trans hK⟩
theorem D.rev_7 (v : Nat) (h : v < 128) : (D.rv8 (v / 256) + 256 * D.rv8 (v % 256)) / 512 = D.val (D.hb v 7) := by
  have : ∀ v : Fin 128, (D.rv8 ((v : Nat) / 256) + 256 * D.rv8 ((v : Nat) % 256)) / 512 = D.val (D.hb v 7) := by decide +kernel
  exact this ⟨v, h⟩
theorem code_7 {w : World} {B b : Nat} {sl : Value} {L : List Nat} (h : Pk w B b sl L) (v : Nat) (hv : v < 128) (hL : L.length ≤ 8000000) :
    Calls Try.prog 36 #[.pointer (some ⟨b, 0, none⟩), .int .i64 (v : Int), .int .i64 7] w fun e w' => e = .returned (.tuple #[]) ∧ ∃ sl', Pk w' B b sl' (L ++ D.hb v 7) ∧ Kb b sl w w' sl' := by
  have hr := D.rev_7 v hv
  have hy := D.hb_lt v 7
  have HRV := Lib.hid (fun W => rev16_any v (by omega) W)
  have HNM := Lib.hid (fun m => number6_any (w := w.drewN m) ⟨h.1.keep (bq_drewN (bq_refl w) m), h.2⟩ (D.val (D.hb v 7)) 7 (by omega) hy hL)
  rw [D.nb_hb v 7] at HNM
  have hxb : D.rv8 (v / 256) + 256 * D.rv8 (v % 256) < 65536 := by
    have h1 := D.hb_lt (v / 256) 8
    have h2 := D.hb_lt (v % 256) 8
    have h3 : D.two 8 = 256 := by decide
    unfold D.rv8
    omega
  have hy2 : D.val (D.hb v 7) < 128 := Nat.lt_of_lt_of_eq hy (by decide)
  generalize D.rv8 (v / 256) + 256 * D.rv8 (v % 256) = x at *
  generalize D.val (D.hb v 7) = y at *
  have es : (x : Int) / 512 = (y : Int) := by omega
  have hw : IntKind.u16.wrap (v : Int) = (v : Int) := by simp [IntKind.wrap, IntKind.bits, IntKind.signed]; omega
  have hw2 : IntKind.i64.wrap (y : Int) = (y : Int) := i64_wrap _ (by omega) (by omega)
  clear h hr hy hxb
  go_enter Try.func36, Try.ntmps36
  go_wp2_with (first
    | (go_at_call 41; refine (HRV.out _).mono ?_; rintro e w1 ⟨rfl, m, rfl⟩)
    | (go_at_call 34; refine (HNM.out _).mono ?_; rintro e w2 ⟨rfl, sl2, hP, hK⟩))
  go_end0
  exact ⟨rfl, sl2, hP, (Kb.of_below b sl (bq_drewN (bq_refl w) m)).trans hK⟩
theorem D.rev_8 (v : Nat) (h : v < 256) : (D.rv8 (v / 256) + 256 * D.rv8 (v % 256)) / 256 = D.val (D.hb v 8) := by
  have : ∀ v : Fin 256, (D.rv8 ((v : Nat) / 256) + 256 * D.rv8 ((v : Nat) % 256)) / 256 = D.val (D.hb v 8) := by decide +kernel
  exact this ⟨v, h⟩
theorem code_8 {w : World} {B b : Nat} {sl : Value} {L : List Nat} (h : Pk w B b sl L) (v : Nat) (hv : v < 256) (hL : L.length ≤ 8000000) :
    Calls Try.prog 36 #[.pointer (some ⟨b, 0, none⟩), .int .i64 (v : Int), .int .i64 8] w fun e w' => e = .returned (.tuple #[]) ∧ ∃ sl', Pk w' B b sl' (L ++ D.hb v 8) ∧ Kb b sl w w' sl' := by
  have hr := D.rev_8 v hv
  have hy := D.hb_lt v 8
  have HRV := Lib.hid (fun W => rev16_any v (by omega) W)
  have HNM := Lib.hid (fun m => number6_any (w := w.drewN m) ⟨h.1.keep (bq_drewN (bq_refl w) m), h.2⟩ (D.val (D.hb v 8)) 8 (by omega) hy hL)
  rw [D.nb_hb v 8] at HNM
  have hxb : D.rv8 (v / 256) + 256 * D.rv8 (v % 256) < 65536 := by
    have h1 := D.hb_lt (v / 256) 8
    have h2 := D.hb_lt (v % 256) 8
    have h3 : D.two 8 = 256 := by decide
    unfold D.rv8
    omega
  have hy2 : D.val (D.hb v 8) < 256 := Nat.lt_of_lt_of_eq hy (by decide)
  generalize D.rv8 (v / 256) + 256 * D.rv8 (v % 256) = x at *
  generalize D.val (D.hb v 8) = y at *
  have es : (x : Int) / 256 = (y : Int) := by omega
  have hw : IntKind.u16.wrap (v : Int) = (v : Int) := by simp [IntKind.wrap, IntKind.bits, IntKind.signed]; omega
  have hw2 : IntKind.i64.wrap (y : Int) = (y : Int) := i64_wrap _ (by omega) (by omega)
  clear h hr hy hxb
  go_enter Try.func36, Try.ntmps36
  go_wp2_with (first
    | (go_at_call 41; refine (HRV.out _).mono ?_; rintro e w1 ⟨rfl, m, rfl⟩)
    | (go_at_call 34; refine (HNM.out _).mono ?_; rintro e w2 ⟨rfl, sl2, hP, hK⟩))
  go_end0
  exact ⟨rfl, sl2, hP, (Kb.of_below b sl (bq_drewN (bq_refl w) m)).trans hK⟩
theorem D.rev_9 (v : Nat) (h : v < 512) : (D.rv8 (v / 256) + 256 * D.rv8 (v % 256)) / 128 = D.val (D.hb v 9) := by
  have : ∀ v : Fin 512, (D.rv8 ((v : Nat) / 256) + 256 * D.rv8 ((v : Nat) % 256)) / 128 = D.val (D.hb v 9) := by decide +kernel
  exact this ⟨v, h⟩
theorem code_9 {w : World} {B b : Nat} {sl : Value} {L : List Nat} (h : Pk w B b sl L) (v : Nat) (hv : v < 512) (hL : L.length ≤ 8000000) :
    Calls Try.prog 36 #[.pointer (some ⟨b, 0, none⟩), .int .i64 (v : Int), .int .i64 9] w fun e w' => e = .returned (.tuple #[]) ∧ ∃ sl', Pk w' B b sl' (L ++ D.hb v 9) ∧ Kb b sl w w' sl' := by
  have hr := D.rev_9 v hv
  have hy := D.hb_lt v 9
  have HRV := Lib.hid (fun W => rev16_any v (by omega) W)
  have HNM := Lib.hid (fun m => number6_any (w := w.drewN m) ⟨h.1.keep (bq_drewN (bq_refl w) m), h.2⟩ (D.val (D.hb v 9)) 9 (by omega) hy hL)
  rw [D.nb_hb v 9] at HNM
  have hxb : D.rv8 (v / 256) + 256 * D.rv8 (v % 256) < 65536 := by
    have h1 := D.hb_lt (v / 256) 8
    have h2 := D.hb_lt (v % 256) 8
    have h3 : D.two 8 = 256 := by decide
    unfold D.rv8
    omega
  have hy2 : D.val (D.hb v 9) < 512 := Nat.lt_of_lt_of_eq hy (by decide)
  generalize D.rv8 (v / 256) + 256 * D.rv8 (v % 256) = x at *
  generalize D.val (D.hb v 9) = y at *
  have es : (x : Int) / 128 = (y : Int) := by omega
  have hw : IntKind.u16.wrap (v : Int) = (v : Int) := by simp [IntKind.wrap, IntKind.bits, IntKind.signed]; omega
  have hw2 : IntKind.i64.wrap (y : Int) = (y : Int) := i64_wrap _ (by omega) (by omega)
  clear h hr hy hxb
  go_enter Try.func36, Try.ntmps36
  go_wp2_with (first
    | (go_at_call 41; refine (HRV.out _).mono ?_; rintro e w1 ⟨rfl, m, rfl⟩)
    | (go_at_call 34; refine (HNM.out _).mono ?_; rintro e w2 ⟨rfl, sl2, hP, hK⟩))
  go_end0
  exact ⟨rfl, sl2, hP, (Kb.of_below b sl (bq_drewN (bq_refl w) m)).trans hK⟩
end Go.Proofs.Ytddiccdfeckgaaa
