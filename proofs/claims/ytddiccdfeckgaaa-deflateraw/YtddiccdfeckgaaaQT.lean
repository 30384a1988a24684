import Derived.Test.YtddiccdfeckgaaaQS
/- Layer 6: the document's bits. -/
namespace Go.Proofs.Ytddiccdfeckgaaa
open Go.RowKit
set_option maxRecDepth 100000
set_option linter.unusedVariables false
set_option linter.unusedSimpArgs false
namespace D
theorem nb_get (v : Nat) : ∀ (n m : Nat) (h : m < (nb v n).length), (nb v n)[m] = v / two m % 2
  | n, m, h => by
    induction n generalizing v m with
    | zero => cases h
    | succ n ih =>
      cases m with
      | zero => simp [nb, two]
      | succ m =>
        have hm : m < (nb (v / 2) n).length := by rw [nb_len] at h ⊢; omega
        have := ih (v / 2) m hm
        simp only [nb, List.getElem_cons_succ]
        rw [this, two, Nat.div_div_eq_div_mul]
theorem hb_get (v n m : Nat) (h : m < (hb v n).length) : (hb v n)[m] = v / two (n - 1 - m) % 2 := by
  unfold hb at h ⊢
  rw [List.length_reverse] at h
  rw [List.getElem_reverse, nb_get]
  congr 3
  rw [nb_len]
theorem nb_snoc (v n : Nat) : nb v (n + 1) = nb v n ++ [v / two n % 2] := by
  induction n generalizing v with
  | zero => simp [nb, two]
  | succ n ih =>
    rw [nb, ih (v / 2), nb, List.cons_append, two, Nat.div_div_eq_div_mul]
end D
/-- bits, as bytes -/
def bL (L : List Nat) : List UInt8 := L.map UInt8.ofNat
theorem bL_app (a b : List Nat) : bL (a ++ b) = bL a ++ bL b := by unfold bL; rw [List.map_append]
theorem bL_len (a : List Nat) : (bL a).length = a.length := by unfold bL; rw [List.length_map]
theorem RB.more {w : World} {B : Nat} {sl : Value} {L : List Nat} (h : RB w B sl (bL L)) (hB : B ≤ w.heap.size) (hL : L.length ≤ 1000000) (x : Nat) (hx : x < 2) (ty : TypeId) :
    ∃ aa nn cc w', (Builtin.append_ #[38, 38] ty #[sl, .slice (some ⟨w.heap.size, 0, none⟩) 1 1]).run Try.prog (w.alloc (.cells #[.int .u8 (x : Int)] 5)) = .ok (.slice aa nn cc) w' ∧ Hid (RB w' B (.slice aa nn cc) (bL (L ++ [x])) ∧ Below B w w') := by
  have hc : (UInt8.ofNat x).toNat = x := by rw [UInt8.toNat_ofNat']; omega
  obtain ⟨aa, nn, cc, w', hrun, HF⟩ := h.push hB (Lib.hid (by rw [bL_len]; omega)) (bq_alloc (bq_refl w) (.cells #[.int .u8 ((UInt8.ofNat x).toNat : Int)] 5)) (UInt8.ofNat x) (heap_alloc_new w _) ty
  rw [hc] at hrun HF
  refine ⟨aa, nn, cc, w', hrun, Lib.hid ⟨?_, ?_⟩⟩
  · rw [bL_app]; exact HF.out.1
  · have hg := HF.out.2.1
    have hb := (Below.refl B w).alloc hB (.cells #[.int .u8 (x : Int)] 5)
    refine hb.trans ⟨hg.os, hg.tape, hg.output, hg.size, fun k hk => hg.block k (by have := hb.size; omega) (fun e => ?_)⟩
    have := (h.lt k e.symm).1
    omega
def NbRel (w : World) (B : Nat) (L : List Nat) (v n : Nat) (l x i : Value) (wr : World) : Prop :=
  ∃ k, k ≤ n ∧ i = .int .i64 (k : Int) ∧ x = .int .i64 ((v / D.two k : Nat) : Int) ∧ RB wr B l (bL (L ++ D.nb v k)) ∧ Below B w wr
set_option maxHeartbeats 1000000 in
theorem rnumber6_any {w : World} {B : Nat} {sl : Value} {L : List Nat} (h : RB w B sl (bL L)) (hB : B ≤ w.heap.size) (hL : L.length ≤ 900000) (v n : Nat) (hv : v < 65536) (hn : n ≤ 16) :
    Calls Try.prog 31 #[sl, .int .i64 (v : Int), .int .i64 (n : Int)] w fun e w' => ∃ sl', e = .returned sl' ∧ RB w' B sl' (bL (L ++ D.nb v n)) ∧ Below B w w' := by
  have HST : Hid (NbRel w B L v n sl (.int .i64 (v : Int)) (.int .i64 0) w) := Lib.hid ⟨0, Nat.zero_le _, rfl, by show _ = Value.int .i64 ((v / 1 : Nat) : Int); rw [Nat.div_one], by show RB w B sl (bL (L ++ [])); rw [List.append_nil]; exact h, Below.refl _ _⟩
  obtain ⟨ua, uc, rfl, _⟩ := h.len
  rw [bL_len] at HST ⊢
  clear h
  go_enter Try.func31, Try.ntmps31
  go_wp2
  go_loopw [0, 1, 7] (fun l x i wr => NbRel w B L v n l x i wr) (fun _ _ i _ => n - (intOf i).toNat)
  case atStart => exact HST.out
  case round =>
    obtain ⟨k, hk, rfl, rfl, hR, hb⟩ := hrel
    clear HST
    have HR := Lib.hid hR
    have HB := Lib.hid hb
    obtain ⟨va, vc, rfl, _⟩ := hR.len
    have hlen : (bL (L ++ D.nb v k)).length = L.length + k := by rw [bL_len, List.length_append, D.nb_len]
    rw [hlen] at HR ⊢
    obtain ⟨LL, hLL⟩ : ∃ LL, LL = L.length + k := ⟨_, rfl⟩
    rw [← hLL] at HR ⊢
    obtain ⟨V, hV⟩ : ∃ V, V = v / D.two k := ⟨_, rfl⟩
    have hV9 : V < 65536 := by rw [hV]; have := Nat.div_le_self v (D.two k); omega
    have HV := Lib.hid hV
    rw [← hV]
    clear hR hb hlen hV
    by_cases hlt : k < n
    · have t0 : decide ((k : Int) < (n : Int)) = true := by rw [decide_eq_true_iff]; omega
      obtain ⟨x, hx⟩ : ∃ x, x = V % 2 := ⟨_, rfl⟩
      have hx2 : x < 2 := by omega
      have e1 : (V : Int) % 2 = (x : Int) := by omega
      have e2 : (V : Int) / 2 = ((V / 2 : Nat) : Int) := by omega
      have hw8 : IntKind.u8.wrap (x : Int) = (x : Int) := by rw [IntKind.wrap_u8]; omega
      have hbs : B ≤ wr.heap.size := by have := HB.out.size; omega
      obtain ⟨aa, nn, cc, w3, hrun, HF⟩ := HR.out.more hbs (by rw [List.length_append, D.nb_len]; omega) x hx2 38
      have HRUN := Lib.hid hrun
      have HFIN : Hid (RB w3 B (.slice aa nn cc) (bL (L ++ D.nb v (k + 1))) ∧ Below B w w3) := Lib.hid ⟨by
        have h1 := HF.out.1
        rw [List.append_assoc, hx, HV.out, ← D.nb_snoc] at h1
        exact h1, HB.out.trans HF.out.2⟩
      have HV2 : Hid (V / 2 = v / D.two (k + 1)) := Lib.hid (by rw [HV.out, Nat.div_div_eq_div_mul, D.two, Nat.mul_comm])
      obtain ⟨V2, hV2⟩ : ∃ V2, V2 = V / 2 := ⟨_, rfl⟩
      rw [← hV2] at e2 HV2
      clear hrun hx hV2 hLL
      go_wp2_with (at_builtin; refine wl_appendq rfl (.tmp 13) (.tmp 17) rfl rfl rfl HRUN.out ?_)
      go_roundw
      case rel => exact ⟨k + 1, by omega, by go_num, by rw [HV2.out], HFIN.out.1, HFIN.out.2⟩
      case measure => simp [intOf]; omega
    · have t0 : decide ((k : Int) < (n : Int)) = false := by rw [decide_eq_false_iff_not]; omega
      have hkn : k = n := by omega
      rw [hkn] at HR
      clear hkn
      go_wp2
      go_ret
      exact ⟨_, rfl, HR.out, HB.out⟩
def PwRel (n : Nat) (p i : Value) : Prop := ∃ k, 1 ≤ k ∧ k ≤ n ∧ i = .int .i64 (k : Int) ∧ p = .int .i64 ((D.two (k - 1) : Nat) : Int)
def CbRel (w : World) (B : Nat) (L : List Nat) (v n : Nat) (l p : Value) (wr : World) : Prop :=
  ∃ j, j ≤ n ∧ p = .int .i64 ((if j < n then D.two (n - 1 - j) else 0 : Nat) : Int) ∧ RB wr B l (bL (L ++ (D.hb v n).take j)) ∧ Below B w wr
set_option maxHeartbeats 1000000 in
theorem rcode6_any {w : World} {B : Nat} {sl : Value} {L : List Nat} (h : RB w B sl (bL L)) (hB : B ≤ w.heap.size) (hL : L.length ≤ 900000) (v n : Nat) (hv : v < 65536) (hn1 : 1 ≤ n) (hn : n ≤ 9) :
    Calls Try.prog 29 #[sl, .int .i64 (v : Int), .int .i64 (n : Int)] w fun e w' => ∃ sl', e = .returned sl' ∧ RB w' B sl' (bL (L ++ D.hb v n)) ∧ Below B w w' := by
  have h16 : ∀ k, k ≤ 9 → D.two k ≤ 512 ∧ 0 < D.two k := fun k hk => ⟨by
    have : ∀ k : Fin 10, D.two k ≤ 512 := by decide
    exact this ⟨k, by omega⟩, D.two_pos k⟩
  have HST : Hid (CbRel w B L v n sl (.int .i64 ((D.two (n - 1) : Nat) : Int)) w) := Lib.hid ⟨0, Nat.zero_le _, by rw [if_pos (by omega), Nat.sub_zero], by rw [List.take_zero, List.append_nil]; exact h, Below.refl _ _⟩
  obtain ⟨ua, uc, rfl, _⟩ := h.len
  rw [bL_len] at HST ⊢
  have H16 := Lib.hid h16
  clear h h16
  go_enter Try.func29, Try.ntmps29
  go_wp2
  go_loop [7, 8] (fun p i => PwRel n p i) (fun _ i => n - (intOf i).toNat)
  case atStart => exact ⟨1, Nat.le_refl _, hn1, rfl, rfl⟩
  case round =>
    obtain ⟨k, hk1, hk2, rfl, rfl⟩ := hrel
    have hp9 := (H16.out (k - 1) (by omega)).1
    have HP2 : Hid (2 * D.two (k - 1) = D.two k) := Lib.hid (by
      obtain ⟨j, rfl⟩ : ∃ j, k = j + 1 := ⟨k - 1, by omega⟩
      rw [Nat.add_sub_cancel, D.two])
    obtain ⟨p, hp⟩ : ∃ p, p = D.two (k - 1) := ⟨_, rfl⟩
    rw [← hp] at hp9 HP2 ⊢
    have HP := Lib.hid hp
    clear hp
    by_cases hlt : k < n
    · have t0 : decide ((k : Int) < (n : Int)) = true := by rw [decide_eq_true_iff]; omega
      obtain ⟨p2, hp2⟩ : ∃ p2, p2 = 2 * p := ⟨_, rfl⟩
      have e1 : (p : Int) * 2 = (p2 : Int) := by omega
      rw [← hp2] at HP2
      clear hp2
      go_wp2
      go_round
      case rel => exact ⟨k + 1, by omega, by omega, by go_num, by rw [Nat.add_sub_cancel, ← HP2.out]⟩
      case measure => simp [intOf]; omega
    · have t0 : decide ((k : Int) < (n : Int)) = false := by rw [decide_eq_false_iff_not]; omega
      have hkn : k = n := by omega
      rw [show D.two (n - 1) = p by rw [HP.out, hkn]] at HST
      clear HP HP2 hkn
      go_wp2
      go_loopw [0, 7] (fun l p wr => CbRel w B L v n l p wr) (fun _ p _ => (intOf p).toNat)
      case atStart => exact HST.out
      case round =>
        obtain ⟨j, hj, rfl, hR, hb⟩ := hrel
        have HR := Lib.hid hR
        have HB := Lib.hid hb
        obtain ⟨va, vc, rfl, _⟩ := hR.len
        have hlen : (bL (L ++ (D.hb v n).take j)).length = L.length + j := by rw [bL_len, List.length_append, List.length_take, D.hb_len]; omega
        rw [hlen] at HR ⊢
        obtain ⟨LL, hLL⟩ : ∃ LL, LL = L.length + j := ⟨_, rfl⟩
        rw [← hLL] at HR ⊢
        clear hR hb hlen
        by_cases hjn : j < n
        · rw [if_pos hjn]
          obtain ⟨g1, g2⟩ := H16.out (n - 1 - j) (by omega)
          have hgb := D.hb_get v n j (by rw [D.hb_len]; exact hjn)
          have htk : (D.hb v n).take (j + 1) = (D.hb v n).take j ++ [v / D.two (n - 1 - j) % 2] := by rw [List.take_succ_eq_append_getElem (by rw [D.hb_len]; exact hjn), hgb]
          have HTK := Lib.hid htk
          have HNX : Hid (D.two (n - 1 - j) / 2 = if j + 1 < n then D.two (n - 1 - (j + 1)) else 0) := Lib.hid (by
            by_cases c : j + 1 < n
            · rw [if_pos c, show n - 1 - j = (n - 1 - (j + 1)) + 1 by omega, D.two]; omega
            · rw [if_neg c, show n - 1 - j = 0 by omega]; rfl)
          obtain ⟨p, hp⟩ : ∃ p, p = D.two (n - 1 - j) := ⟨_, rfl⟩
          rw [← hp] at g1 g2 HTK HNX ⊢
          obtain ⟨q, hq⟩ : ∃ q, q = v / p := ⟨_, rfl⟩
          have eq1 : (v : Int) / (p : Int) = (q : Int) := by rw [hq]; push_cast; rfl
          have hq9 : q < 65536 := by rw [hq]; have := Nat.div_le_self v p; omega
          obtain ⟨x, hx⟩ : ∃ x, x = q % 2 := ⟨_, rfl⟩
          have hx2 : x < 2 := by omega
          have e2 : (q : Int) % 2 = (x : Int) := by omega
          have hw8 : IntKind.u8.wrap (x : Int) = (x : Int) := by rw [IntKind.wrap_u8]; omega
          have hbs : B ≤ wr.heap.size := by have := HB.out.size; omega
          rw [← hq, ← hx] at HTK
          obtain ⟨aa, nn, cc, w3, hrun, HF⟩ := HR.out.more hbs (by rw [List.length_append, List.length_take]; omega) x hx2 38
          have HRUN := Lib.hid hrun
          have HFIN : Hid (RB w3 B (.slice aa nn cc) (bL (L ++ (D.hb v n).take (j + 1))) ∧ Below B w w3) := Lib.hid ⟨by
            rw [HTK.out, ← List.append_assoc]
            exact HF.out.1, HB.out.trans HF.out.2⟩
          obtain ⟨p2, hp2⟩ : ∃ p2, p2 = p / 2 := ⟨_, rfl⟩
          have e3 : (p : Int) / 2 = (p2 : Int) := by omega
          have hpp : p2 < p := by omega
          rw [← hp2] at HNX
          have t1 : decide (0 < (p : Int)) = true := by rw [decide_eq_true_iff]; omega
          have t1' : decide (0 < p) = true := by rw [decide_eq_true_iff]; omega
          have hpne : ((p : Int) == 0) = false := by rw [beq_eq_false_iff_ne]; omega
          clear hrun hx hq hp hp2 hLL hgb htk
          go_wp2_with (at_builtin; refine wl_appendq rfl (.tmp 18) (.tmp 24) rfl rfl rfl HRUN.out ?_)
          go_roundw
          case rel => exact ⟨j + 1, by omega, by rw [HNX.out], HFIN.out.1, HFIN.out.2⟩
          case measure => simp [intOf]; omega
        · rw [if_neg hjn]
          have htk : (D.hb v n).take j = D.hb v n := List.take_of_length_le (by rw [D.hb_len]; omega)
          rw [htk] at HR
          clear htk
          go_wp2
          go_ret
          exact ⟨_, rfl, HR.out, HB.out⟩
end Go.Proofs.Ytddiccdfeckgaaa
