import Derived.Test.YthlnjipefeglpaaZT2
import Derived.Test.YthlnjipefeglpaaZT1
namespace Go.Proofs.Ythlnjipefeglpaa
open Go.RowKit
set_option linter.unusedVariables false
def nf (s : ByteArray) (f : Int) : Nat := if 0 < f ∧ f ≤ 7 ∧ 0 < s.size ∧ B.bv s.data.toList % B.P2 f.toNat = 0 then f.toNat else 0
theorem nf_of_snd (s : ByteArray) (f : Nat) (h : B.Snd s.data.toList f) : nf s f = f := by
  unfold nf
  have h2 := h.2.1
  rw [bytes_length] at h2
  by_cases e : f = 0
  · subst e; rw [if_neg (by omega)]
  · rw [if_pos ⟨by omega, by have := h.1; omega, by omega, by rw [Int.toNat_natCast]; exact h.2.2⟩, Int.toNat_natCast]
theorem last_mod_bs (s : ByteArray) (m : Nat) (hm : m < s.size) (hm2 : s.size ≤ m + 1) (f : Nat) (hf : f ≤ 8) : B.bv s.data.toList % B.P2 f = s[m].toNat % B.P2 f := by
  have e := B.last_mod (s.data.toList.take m) s[m] f hf
  rw [← split_last s m hm hm2] at e
  exact e
theorem put_any (s : ByteArray) (f : Int) (v n : Nat) (w : World) (hs : s.size ≤ 1099511627776) (hn : n ≤ 31) (hv : v < B.P2 n) :
    Calls Try.prog 100 #[.agg #[.string s, .int .i64 f], .int .i64 v, .int .i64 n] w fun e w' => e = .returned (.agg #[.string (bs (B.putL s.data.toList (nf s f) v n)), .int .i64 (B.putF s.size (nf s f) n : Int)]) ∧ Below w.heap.size w w' := by
  have hv2 : v < 2147483648 := Nat.lt_of_lt_of_le hv (B.P2_le (b := 31) hn)
  by_cases h0 : f = 0
  · subst h0
    rw [show nf s 0 = 0 from rfl]
    exact put_zero s v n w hs hn hv2 (Lib.hid hv)
  by_cases h1 : f < 0 ∨ 7 < f
  · rw [show nf s f = 0 by unfold nf; rw [if_neg (by omega)]]
    exact put_unsound s f v n w hs hn hv2 (Lib.hid hv) (Lib.hid fun w => sound_out s f w h1)
  by_cases h2 : s.size = 0
  · rw [show nf s f = 0 by unfold nf; rw [if_neg (by omega)]]
    exact put_unsound s f v n w hs hn hv2 (Lib.hid hv) (Lib.hid fun w => sound_empty s f w (by omega) (by omega) h2)
  obtain ⟨F, rfl⟩ := Int.eq_ofNat_of_zero_le (show 0 ≤ f by omega)
  obtain ⟨m, hm⟩ : ∃ m, m + 1 = s.size := ⟨s.size - 1, by omega⟩
  have e := last_mod_bs s m (by omega) (by omega) F (by omega)
  have HS := fun w => sound_last s F m w (by omega) (by omega) (by omega) (by omega) hs
  rw [← e] at HS
  by_cases h3 : B.bv s.data.toList % B.P2 F = 0
  · rw [show nf s F = F by unfold nf; rw [if_pos ⟨by omega, by omega, by omega, h3⟩]; rfl]
    rw [decide_eq_true h3] at HS
    exact put_part s F m v n w hs hn hv2 (Lib.hid hv) (by omega) (by omega) (by omega) (by omega) (Lib.hid HS)
  · rw [show nf s F = 0 by unfold nf; rw [if_neg (by intro k; exact h3 k.2.2.2)]]
    rw [decide_eq_false h3] at HS
    exact put_unsound s F v n w hs hn hv2 (Lib.hid hv) (Lib.hid HS)
theorem putplain_post {Q : Ending → World → Prop} {a : Act} {W : World} {g : Nat} {x y v : Value} (hbox : Box W g x y) (h6 : a.tmps[6]?.getD undef = .pointer (some ⟨g, 0, none⟩)) (h7 : a.tmps[7]?.getD undef = v)
    (hd : a.defers = []) (hQ : Q (.returned (.tuple #[.agg #[x, y], v])) W) : bodyPost Try.prog Try.f84 Q Exit.ret a W :=
  bodyPost_ret (v := .tuple #[.agg #[x, y], v]) (by simp [results, Try.results84, go_sem, h6, h7, hbox.1, hbox.2.1]) hd hQ
theorem putsigned_post {Q : Ending → World → Prop} {a : Act} {W : World} {g : Nat} {x y v : Value} (hbox : Box W g x y) (h6 : a.tmps[6]?.getD undef = .pointer (some ⟨g, 0, none⟩)) (h7 : a.tmps[7]?.getD undef = v)
    (hd : a.defers = []) (hQ : Q (.returned (.tuple #[.agg #[x, y], v])) W) : bodyPost Try.prog Try.f86 Q Exit.ret a W :=
  bodyPost_ret (v := .tuple #[.agg #[x, y], v]) (by simp [results, Try.results86, go_sem, h6, h7, hbox.1, hbox.2.1]) hd hQ
def errW : Value := .tuple #[.agg #[.string ⟨#[]⟩, .int .i64 0], .int .i64 1]
theorem box2_now (w : World) (x y x' y' : Value) (t t' : TypeId) : Box ((w.alloc (.cells #[x, y] t)).alloc (.cells #[x', y'] t')) w.heap.size x y ∧ Box ((w.alloc (.cells #[x, y] t)).alloc (.cells #[x', y'] t')) (w.heap.size + 1) x' y' ∧ Below w.heap.size w ((w.alloc (.cells #[x, y] t)).alloc (.cells #[x', y'] t')) :=
  box2_kept (bq_refl _)
theorem putplain_bad (s : ByteArray) (f v n : Int) (w : World) (h : n < 0 ∨ 31 < n ∨ v < 0) :
    Calls Try.prog 84 #[.agg #[.string s, .int .i64 f], .int .i64 v, .int .i64 n] w fun e w' => e = .returned errW ∧ Below w.heap.size w w' := by
  obtain ⟨C, D, H⟩ := box2_now w (.string s) (.int .i64 f) (.string ⟨#[]⟩) (.int .i64 0) 40 40
  have HC := Lib.hid C
  have HD := Lib.hid D
  have HH := Lib.hid H
  clear C D H
  by_cases hn : n < 0 ∨ 31 < n
  · have HN := Lib.hid hn
    clear hn h
    go_enter Try.func84, Try.ntmps84
    go_wp2_with fail
    refine (isfield_no n _ HN.out).mono ?_
    rintro e w1 ⟨rfl, rfl⟩
    go_wp2_with fail
    exact bodyPost_ret (v := errW) (by simp [results, Try.results84, go_sem, errW]) rfl ⟨rfl, HH.out⟩
  · have hv : v < 0 := by omega
    have n0 : 0 ≤ n := by omega
    have n1 : n ≤ 31 := by omega
    clear hn h
    go_enter Try.func84, Try.ntmps84
    go_wp2_with fail
    refine (isfield_yes n _ n0 n1).mono ?_
    rintro e w1 ⟨rfl, rfl⟩
    go_wp2_with fail
    exact bodyPost_ret (v := errW) (by simp [results, Try.results84, go_sem, errW]) rfl ⟨rfl, HH.out⟩
theorem putplain_nat (s : ByteArray) (f : Int) (v n : Nat) (w : World) (hs : s.size ≤ 1099511627776) (hn : n ≤ 31) :
    Calls Try.prog 84 #[.agg #[.string s, .int .i64 f], .int .i64 v, .int .i64 n] w fun e w' =>
      e = .returned (if v < B.P2 n then .tuple #[.agg #[.string (bs (B.putL s.data.toList (nf s f) v n)), .int .i64 (B.putF s.size (nf s f) n : Int)], .int .i64 0] else errW) ∧ Below w.heap.size w w' := by
  have hpb : B.P2 n ≤ 2147483648 := B.P2_le (b := 31) hn
  have e2 : wrap64 (2 ^ n) = (B.P2 n : Int) := by rw [P2_cast]; exact i64_id _ (by omega) (by omega)
  by_cases hv : v < B.P2 n
  · rw [if_pos hv]
    have HP := Lib.hid (fun w => put_any s f v n w hs hn hv)
    have hb : decide (wrap64 (2 ^ n) ≤ (v : Int)) = false := by rw [e2]; simp; omega
    clear e2
    go_enter Try.func84, Try.ntmps84
    go_wp2_with fail
    refine (isfield_yes n _ (by omega) (by omega)).mono ?_
    rintro e w1 ⟨rfl, rfl⟩
    go_wp2_with fail
    refine (HP.out _).mono ?_
    rintro e w1 ⟨rfl, hb1⟩
    obtain ⟨⟨c0, c1, f0, f1, cz⟩, ⟨d0, d1, g0, g1, hz⟩, H⟩ := box2_kept hb1
    have H1 := Lib.hid H
    clear hb1 H
    go_wp2_with fail
    exact putplain_post ((Box.set0 ⟨d0, d1, g0, g1, hz⟩ _).set1 _) rfl rfl rfl ⟨rfl, bq_set (bq_set H1.out _ (by simp) _) _ (by simp) _⟩
  · rw [if_neg hv]
    have hb : decide (wrap64 (2 ^ n) ≤ (v : Int)) = true := by rw [e2]; simp; omega
    clear e2
    go_enter Try.func84, Try.ntmps84
    go_wp2_with fail
    refine (isfield_yes n _ (by omega) (by omega)).mono ?_
    rintro e w1 ⟨rfl, rfl⟩
    go_wp2_with fail
    exact bodyPost_ret (v := errW) (by simp [results, Try.results84, go_sem, errW]) rfl ⟨rfl, (box2_now w _ _ _ _ _ _).2.2⟩
def ppR (s : ByteArray) (f : Int) (v n : Nat) : Value := .tuple #[.agg #[.string (bs (B.putL s.data.toList (nf s f) v n)), .int .i64 (B.putF s.size (nf s f) n : Int)], .int .i64 0]
def ppOk (v n : Int) : Bool := decide (0 ≤ n) && decide (n ≤ 31) && decide (0 ≤ v) && decide (v.toNat < B.P2 n.toNat)
theorem putplain_any (s : ByteArray) (f v n : Int) (w : World) (hs : s.size ≤ 1099511627776) :
    Calls Try.prog 84 #[.agg #[.string s, .int .i64 f], .int .i64 v, .int .i64 n] w fun e w' => e = .returned (if ppOk v n = true then ppR s f v.toNat n.toNat else errW) ∧ Below w.heap.size w w' := by
  by_cases h : 0 ≤ n ∧ n ≤ 31 ∧ 0 ≤ v
  · obtain ⟨N, rfl⟩ := Int.eq_ofNat_of_zero_le h.1
    obtain ⟨V, rfl⟩ := Int.eq_ofNat_of_zero_le h.2.2
    have hp := putplain_nat s f V N w hs (by omega)
    have e : ppOk V N = decide (V < B.P2 N) := by simp [ppOk]; omega
    rw [e]
    simpa [ppR] using hp
  · have e : ppOk v n = false := by
      unfold ppOk
      by_cases h1 : 0 ≤ n <;> by_cases h2 : n ≤ 31 <;> by_cases h3 : 0 ≤ v <;> simp [h1, h2, h3] <;> exact absurd ⟨h1, h2, h3⟩ h
    rw [e]
    exact putplain_bad s f v n w (by omega)
theorem putsigned_bad (s : ByteArray) (f v n : Int) (w : World) (v0 : -9223372036854775808 ≤ v) (v1 : v ≤ 9223372036854775807) (h : n < 0 ∨ 31 < n ∨ n < wd v) :
    Calls Try.prog 86 #[.agg #[.string s, .int .i64 f], .int .i64 v, .int .i64 n] w fun e w' => e = .returned errW ∧ Below w.heap.size w w' := by
  have HH := Lib.hid (box2_now w (.string s) (.int .i64 f) (.string ⟨#[]⟩) (.int .i64 0) 40 40).2.2
  by_cases hn : n < 0 ∨ 31 < n
  · have HN := Lib.hid hn
    clear hn h
    go_enter Try.func86, Try.ntmps86
    go_wp2_with fail
    refine (isfield_no n _ HN.out).mono ?_
    rintro e w1 ⟨rfl, rfl⟩
    go_wp2_with fail
    exact bodyPost_ret (v := errW) (by simp [results, Try.results86, go_sem, errW]) rfl ⟨rfl, HH.out⟩
  · have hv : n < wd v := by omega
    have n0 : 0 ≤ n := by omega
    have n1 : n ≤ 31 := by omega
    have HW := Lib.hid (fun w => width_any v w v0 v1)
    generalize wd v = y at *
    clear hn h
    go_enter Try.func86, Try.ntmps86
    go_wp2_with fail
    refine (isfield_yes n _ n0 n1).mono ?_
    rintro e w1 ⟨rfl, rfl⟩
    go_wp2_with fail
    refine (HW.out _).mono ?_
    rintro e w1 ⟨rfl, rfl⟩
    go_wp2_with fail
    exact bodyPost_ret (v := errW) (by simp [results, Try.results86, go_sem, errW]) rfl ⟨rfl, HH.out⟩
theorem putsigned_ok (s : ByteArray) (f v : Int) (u n : Nat) (w : World) (hs : s.size ≤ 1099511627776) (v0 : -9223372036854775808 ≤ v) (v1 : v ≤ 9223372036854775807) (hn : n ≤ 31) (hw : wd v ≤ n)
    (hu : u < B.P2 n) (HU : Hid (v < 0 ∧ wrap64 (v + wrap64 (2 ^ n)) = u ∨ 0 ≤ v ∧ v = u)) :
    Calls Try.prog 86 #[.agg #[.string s, .int .i64 f], .int .i64 v, .int .i64 n] w fun e w' => e = .returned (ppR s f u n) ∧ Below w.heap.size w w' := by
  have HP := Lib.hid (fun w => put_any s f u n w hs hn hu)
  have HW := Lib.hid (fun w => width_any v w v0 v1)
  generalize wd v = y at *
  clear hu
  unfold ppR
  rcases HU.out with ⟨hv, hw2⟩ | ⟨hv, hw2⟩
  · have HW2 := Lib.hid hw2
    clear hw2 HU
    go_enter Try.func86, Try.ntmps86
    go_wp2_with fail
    refine (isfield_yes n _ (by omega) (by omega)).mono ?_
    rintro e w1 ⟨rfl, rfl⟩
    go_wp2_with fail
    refine (HW.out _).mono ?_
    rintro e w1 ⟨rfl, rfl⟩
    go_wp2_with fail
    rw [HW2.out]
    refine (HP.out _).mono ?_
    rintro e w1 ⟨rfl, hb1⟩
    obtain ⟨⟨c0, c1, f0, f1, cz⟩, ⟨d0, d1, g0, g1, hz⟩, H⟩ := box2_kept hb1
    have H1 := Lib.hid H
    clear hb1 H
    go_wp2_with fail
    exact putsigned_post ((Box.set0 ⟨d0, d1, g0, g1, hz⟩ _).set1 _) rfl rfl rfl ⟨rfl, bq_set (bq_set H1.out _ (by simp) _) _ (by simp) _⟩
  · subst hw2
    clear HU
    go_enter Try.func86, Try.ntmps86
    go_wp2_with fail
    refine (isfield_yes n _ (by omega) (by omega)).mono ?_
    rintro e w1 ⟨rfl, rfl⟩
    go_wp2_with fail
    refine (HW.out _).mono ?_
    rintro e w1 ⟨rfl, rfl⟩
    go_wp2_with fail
    refine (HP.out _).mono ?_
    rintro e w1 ⟨rfl, hb1⟩
    obtain ⟨⟨c0, c1, f0, f1, cz⟩, ⟨d0, d1, g0, g1, hz⟩, H⟩ := box2_kept hb1
    have H1 := Lib.hid H
    clear hb1 H
    go_wp2_with fail
    exact putsigned_post ((Box.set0 ⟨d0, d1, g0, g1, hz⟩ _).set1 _) rfl rfl rfl ⟨rfl, bq_set (bq_set H1.out _ (by simp) _) _ (by simp) _⟩
def sgU (v : Int) (n : Nat) : Nat := if v < 0 then (v + B.P2 n).toNat else v.toNat
def psOk (v n : Int) : Bool := decide (0 ≤ n) && decide (n ≤ 31) && decide ((wd v : Int) ≤ n)
theorem sgU_lt (v : Int) (n : Nat) (v0 : -9223372036854775808 ≤ v) (v1 : v ≤ 9223372036854775807) (hn : n ≤ 31) (hw : wd v ≤ n) : sgU v n < B.P2 n ∧ (v < 0 → -(B.P2 n : Int) ≤ 2 * v) ∧ (0 ≤ v → 2 * v < B.P2 n) := by
  by_cases h0 : v = 0
  · subst h0; exact ⟨B.P2_pos n, by omega, by have := B.P2_pos n; omega⟩
  · have hp := wd_pos v h0
    have hi := (wd_iff v (n - 1) h0 v0 v1 (by omega)).1 (by omega)
    have hP := B.P2_succ (n - 1)
    rw [show n - 1 + 1 = n by omega] at hP
    unfold sgU
    split <;> omega
theorem putsigned_any (s : ByteArray) (f v n : Int) (w : World) (hs : s.size ≤ 1099511627776) (v0 : -9223372036854775808 ≤ v) (v1 : v ≤ 9223372036854775807) :
    Calls Try.prog 86 #[.agg #[.string s, .int .i64 f], .int .i64 v, .int .i64 n] w fun e w' => e = .returned (if psOk v n = true then ppR s f (sgU v n.toNat) n.toNat else errW) ∧ Below w.heap.size w w' := by
  by_cases h : 0 ≤ n ∧ n ≤ 31 ∧ (wd v : Int) ≤ n
  · obtain ⟨N, rfl⟩ := Int.eq_ofNat_of_zero_le h.1
    have e : psOk v N = true := by simp [psOk]; omega
    rw [e, if_pos rfl]
    have hu := (sgU_lt v N v0 v1 (by omega) (by omega))
    have hpb : B.P2 N ≤ 2147483648 := B.P2_le (b := 31) (by omega)
    have e2 : wrap64 (2 ^ N) = (B.P2 N : Int) := by rw [P2_cast]; exact i64_id _ (by omega) (by omega)
    refine putsigned_ok s f v (sgU v N) N w hs v0 v1 (by omega) (by omega) hu.1 (Lib.hid ?_)
    rw [e2]
    unfold sgU
    by_cases hv : v < 0
    · left
      have := hu.2.1 hv
      rw [if_pos hv, i64_id _ (by omega) (by omega)]
      omega
    · right
      rw [if_neg hv]
      omega
  · have e : psOk v n = false := by
      unfold psOk
      by_cases h1 : 0 ≤ n <;> by_cases h2 : n ≤ 31 <;> by_cases h3 : (wd v : Int) ≤ n <;> simp [h1, h2, h3] <;> exact absurd ⟨h1, h2, h3⟩ h
    rw [e]
    exact putsigned_bad s f v n w v0 v1 (by omega)
end Go.Proofs.Ythlnjipefeglpaa
namespace Go.Proofs.Ythlnjipefeglpaa
open Go.RowKit
set_option linter.unusedVariables false
theorem refright_yes (s : ByteArray) (a : Int) (w : World) (hs : s.size ≤ 1099511627776) (h0 : 0 ≤ a) (h1 : a ≤ 8 * s.size) : Calls Try.prog 93 #[.agg #[.string s, .int .i64 a]] w fun e w' => e = .returned (.bool true) ∧ Below w.heap.size w w' :=
  (refright_any s a w hs).mono fun e w' ⟨he, hw⟩ => ⟨by rw [he]; simp; omega, hw⟩
theorem refright_no (s : ByteArray) (a : Int) (w : World) (hs : s.size ≤ 1099511627776) (h : a < 0 ∨ 8 * s.size < a) : Calls Try.prog 93 #[.agg #[.string s, .int .i64 a]] w fun e w' => e = .returned (.bool false) ∧ Below w.heap.size w w' :=
  (refright_any s a w hs).mono fun e w' ⟨he, hw⟩ => ⟨by rw [he]; simp; omega, hw⟩
theorem refplain_post {Q : Ending → World → Prop} {a : Act} {W : World} {g : Nat} {x y u v : Value} (hbox : Box W g x y) (h4 : a.tmps[4]?.getD undef = u) (h5 : a.tmps[5]?.getD undef = .pointer (some ⟨g, 0, none⟩)) (h6 : a.tmps[6]?.getD undef = v)
    (hd : a.defers = []) (hQ : Q (.returned (.tuple #[u, .agg #[x, y], v])) W) : bodyPost Try.prog Try.f105 Q Exit.ret a W :=
  bodyPost_ret (v := .tuple #[u, .agg #[x, y], v]) (by simp [results, Try.results105, go_sem, h4, h5, h6, hbox.1, hbox.2.1]) hd hQ
theorem refplain_bad1 (s : ByteArray) (a n : Int) (w : World) (hs : s.size ≤ 1099511627776) (h : a < 0 ∨ 8 * s.size < a) :
    Calls Try.prog 105 #[.agg #[.string s, .int .i64 a], .int .i64 n] w fun e w' => e = .returned (errR 1) ∧ Below w.heap.size w w' := by
  have H := Lib.hid h
  clear h
  go_enter Try.func105, Try.ntmps105
  go_wp2_with fail
  refine (refright_no s a _ hs H.out).mono ?_
  rintro e w1 ⟨rfl, hb⟩
  obtain ⟨⟨c0, c1, _, _, _⟩, ⟨d0, d1, g0, g1, hz⟩, H⟩ := box2_kept hb
  have H1 := Lib.hid H
  clear hb H
  go_wp2_with fail
  exact refplain_post (((Box.set0 ⟨d0, d1, g0, g1, hz⟩ _).set1 _)) rfl rfl rfl rfl ⟨rfl, bq_set (bq_set H1.out _ (by simp) _) _ (by simp) _⟩
theorem refplain_bad2 (s : ByteArray) (a n : Int) (w : World) (hs : s.size ≤ 1099511627776) (h0 : 0 ≤ a) (h1 : a ≤ 8 * s.size) (h : n < 0 ∨ 31 < n) :
    Calls Try.prog 105 #[.agg #[.string s, .int .i64 a], .int .i64 n] w fun e w' => e = .returned (errR 1) ∧ Below w.heap.size w w' := by
  rcases h with h | h
  all_goals
    go_enter Try.func105, Try.ntmps105
    go_wp2_with fail
    refine (refright_yes s a _ hs h0 h1).mono ?_
    rintro e w1 ⟨rfl, hb⟩
    obtain ⟨⟨c0, c1, _, _, _⟩, ⟨d0, d1, g0, g1, hz⟩, H⟩ := box2_kept hb
    have H1 := Lib.hid H
    clear hb H
    go_wp2_with fail
    exact refplain_post (((Box.set0 ⟨d0, d1, g0, g1, hz⟩ _).set1 _)) rfl rfl rfl rfl ⟨rfl, bq_set (bq_set H1.out _ (by simp) _) _ (by simp) _⟩
theorem refplain_short (s : ByteArray) (a n : Int) (w : World) (hs : s.size ≤ 1099511627776) (h0 : 0 ≤ a) (h1 : a ≤ 8 * s.size) (h2 : 0 ≤ n) (h3 : n ≤ 31) (h4 : 8 * s.size - a < n) :
    Calls Try.prog 105 #[.agg #[.string s, .int .i64 a], .int .i64 n] w fun e w' => e = .returned (errR 2) ∧ Below w.heap.size w w' := by
  go_enter Try.func105, Try.ntmps105
  go_wp2_with fail
  refine (refright_yes s a _ hs h0 h1).mono ?_
  rintro e w1 ⟨rfl, hb⟩
  obtain ⟨⟨c0, c1, _, _, _⟩, ⟨d0, d1, g0, g1, hz⟩, H⟩ := box2_kept hb
  have H1 := Lib.hid H
  clear hb H
  go_wp2_with fail
  exact refplain_post (((Box.set0 ⟨d0, d1, g0, g1, hz⟩ _).set1 _)) rfl rfl rfl rfl ⟨rfl, bq_set (bq_set H1.out _ (by simp) _) _ (by simp) _⟩
def RPRel (s : ByteArray) (a n : Nat) (v i : Value) : Prop := ∃ k x : Nat, k ≤ n ∧ i = .int .i64 k ∧ v = .int .i64 (x : Int) ∧ x = B.fld s.data.toList a k
attribute [local go_sem ↓] Go.wp_at_zero Go.wp_at_succ
set_option maxHeartbeats 1000000 in
theorem refplain_ok (s : ByteArray) (a n : Nat) (w : World) (hs : s.size ≤ 1099511627776) (h3 : n ≤ 31) (h4 : a + n ≤ 8 * s.size) :
    Calls Try.prog 105 #[.agg #[.string s, .int .i64 a], .int .i64 n] w fun e w' => e = .returned (.tuple #[.int .i64 (B.fld s.data.toList a n : Int), .agg #[.string s, .int .i64 ((a + n : Nat) : Int)], .int .i64 0]) ∧ Below w.heap.size w w' := by
  rw [show ((a + n : Nat) : Int) = (a : Int) + (n : Int) by omega]
  go_enter Try.func105, Try.ntmps105
  go_wp2_with fail
  refine (refright_yes s a _ hs (by omega) (by omega)).mono ?_
  rintro e w1 ⟨rfl, hb⟩
  obtain ⟨⟨c0, c1, _, _, _⟩, ⟨d0, d1, g0, g1, hz⟩, H⟩ := box2_kept hb
  have H1 := Lib.hid H
  clear hb H
  go_wp2_with fail
  go_loop [7, 8] (fun v i => RPRel s a n v i) (fun _ i => n - (intOf i).toNat)
  case atStart => exact ⟨0, 0, by omega, rfl, rfl, (B.fld_zero _ _).symm⟩
  case round =>
    obtain ⟨k, x, hk, rfl, rfl, hx⟩ := hrel
    have hx2 : x < B.P2 31 := by rw [hx]; exact Nat.lt_of_lt_of_le (B.fld_lt _ _ _) (B.P2_le (by omega))
    have hx3 : x < 2147483648 := hx2
    have HX := Lib.hid hx
    clear hx hx2
    by_cases hlt : k < n
    · have hb := fun w => bit_any s (a + k) w hs (by omega)
      rw [show ((a + k : Nat) : Int) = (a : Int) + (k : Int) by omega] at hb
      have hstep := B.fld_split s.data.toList a k 1 (by rw [bytes_length]; omega)
      rw [← HX.out] at hstep
      have hf1 : B.fld s.data.toList (a + k) 1 < 2 := B.fld_lt _ _ _
      generalize B.fld s.data.toList (a + k) 1 = y at hb hstep hf1
      have HS := Lib.hid hstep
      have HB := Lib.hid hb
      clear hb hstep
      go_wp2_with (go_at_call 110; refine (HB.out _).mono ?_; rintro e w' ⟨rfl, rfl⟩)
      go_round
      case rel => exact ⟨k + 1, x * 2 + y, by omega, by go_num, by go_num, by rw [HS.out]; rfl⟩
      case measure => simp [intOf]; omega
    · obtain rfl : k = n := by omega
      go_wp2_with fail
      have wr := i64_wrap ((a : Int) + (k : Int)) (by omega) (by omega)
      go_region_held3 (fun w' => w'.cell? ⟨w.heap.size, 0, none⟩ = some (.string s) ∧ w'.cell? ⟨w.heap.size, 1, none⟩ = some (.int .i64 a)) (go_keep) (fail)
      all_goals go_wp2
      exact refplain_post ((((Box.drewN ⟨d0, d1, g0, g1, hz⟩ _).set0 _).set1 _)) rfl rfl rfl rfl ⟨by rw [← HX.out]; rfl, bq_set (bq_set (bq_drewN H1.out _) _ (by simp) _) _ (by simp) _⟩
theorem refplain_any (s : ByteArray) (a n : Int) (w : World) (hs : s.size ≤ 1099511627776) :
    Calls Try.prog 105 #[.agg #[.string s, .int .i64 a], .int .i64 n] w fun e w' => e = .returned (plR s a n) ∧ Below w.heap.size w w' := by
  by_cases h : 0 ≤ a ∧ a ≤ 8 * s.size ∧ 0 ≤ n ∧ n ≤ 31
  · by_cases h2 : 8 * s.size - a < n
    · rw [plR_short h h2]; exact refplain_short s a n w hs h.1 h.2.1 h.2.2.1 h.2.2.2 h2
    · obtain ⟨A, rfl⟩ := Int.eq_ofNat_of_zero_le h.1
      obtain ⟨N, rfl⟩ := Int.eq_ofNat_of_zero_le h.2.2.1
      rw [plR_ok (by omega) (by omega)]; exact refplain_ok s A N w hs (by omega) (by omega)
  · rw [plR_arg h]
    by_cases h3 : 0 ≤ a ∧ a ≤ 8 * s.size
    · exact refplain_bad2 s a n w hs h3.1 h3.2 (by omega)
    · exact refplain_bad1 s a n w hs (by omega)
end Go.Proofs.Ythlnjipefeglpaa
