import Derived.Test.YthlnjipefeglpaaZS2
import Derived.Test.YthlnjipefeglpaaZS1
namespace Go.Proofs.Ythlnjipefeglpaa
open Go.RowKit
set_option linter.unusedVariables false
def nf (s : ByteArray) (f : Int) : Nat := if 0 < f ∧ f ≤ 7 ∧ 0 < s.size ∧ B.bv s.data.toList % B.P2 f.toNat = 0 then f.toNat else 0
theorem nf_of_snd (s : ByteArray) (f : Nat) (h : B.Snd s.data.toList f) : nf s f = f := by
  unfold nf
  have h2 := h.2.1
  rw [bytes_length] at h2
  by_cases e : f = 0
  · subst e; rw [if_neg (by omega)]
  · rw [if_pos ⟨by omega, by have := h.1; omega, by omega, by rw [Int.toNat_natCast]; exact h.2.2⟩, Int.toNat_natCast]
theorem last_mod_bs (s : ByteArray) (m : Nat) (hm : m < s.size) (hm2 : s.size ≤ m + 1) (f : Nat) (hf : f ≤ 8) : B.bv s.data.toList % B.P2 f = s[m].toNat % B.P2 f := by
  have e := B.last_mod (s.data.toList.take m) s[m] f hf
  rw [← split_last s m hm hm2] at e
  exact e
theorem put_any (s : ByteArray) (f : Int) (v n : Nat) (w : World) (hs : s.size ≤ 1099511627776) (hn : n ≤ 31) (hv : v < B.P2 n) :
    Calls Try.prog 100 #[.agg #[.string s, .int .i64 f], .int .i64 v, .int .i64 n] w fun e w' => e = .returned (.agg #[.string (bs (B.putL s.data.toList (nf s f) v n)), .int .i64 (B.putF s.size (nf s f) n : Int)]) ∧ Below w.heap.size w w' := by
  have hv2 : v < 2147483648 := Nat.lt_of_lt_of_le hv (B.P2_le (b := 31) hn)
  by_cases h0 : f = 0
  · subst h0
    rw [show nf s 0 = 0 from rfl]
    exact put_zero s v n w hs hn hv2 (Lib.hid hv)
  by_cases h1 : f < 0 ∨ 7 < f
  · rw [show nf s f = 0 by unfold nf; rw [if_neg (by omega)]]
    exact put_unsound s f v n w hs hn hv2 (Lib.hid hv) (Lib.hid fun w => sound_out s f w h1)
  by_cases h2 : s.size = 0
  · rw [show nf s f = 0 by unfold nf; rw [if_neg (by omega)]]
    exact put_unsound s f v n w hs hn hv2 (Lib.hid hv) (Lib.hid fun w => sound_empty s f w (by omega) (by omega) h2)
  obtain ⟨F, rfl⟩ := Int.eq_ofNat_of_zero_le (show 0 ≤ f by omega)
  obtain ⟨m, hm⟩ : ∃ m, m + 1 = s.size := ⟨s.size - 1, by omega⟩
  have e := last_mod_bs s m (by omega) (by omega) F (by omega)
  have HS := fun w => sound_last s F m w (by omega) (by omega) (by omega) (by omega) hs
  rw [← e] at HS
  by_cases h3 : B.bv s.data.toList % B.P2 F = 0
  · rw [show nf s F = F by unfold nf; rw [if_pos ⟨by omega, by omega, by omega, h3⟩]; rfl]
    rw [decide_eq_true h3] at HS
    exact put_part s F m v n w hs hn hv2 (Lib.hid hv) (by omega) (by omega) (by omega) (by omega) (Lib.hid HS)
  · rw [show nf s F = 0 by unfold nf; rw [if_neg (by intro k; exact h3 k.2.2.2)]]
    rw [decide_eq_false h3] at HS
    exact put_unsound s F v n w hs hn hv2 (Lib.hid hv) (Lib.hid HS)
theorem putplain_post {Q : Ending → World → Prop} {a : Act} {W : World} {g : Nat} {x y v : Value} (hbox : Box W g x y) (h6 : a.tmps[6]?.getD undef = .pointer (some ⟨g, 0, none⟩)) (h7 : a.tmps[7]?.getD undef = v)
    (hd : a.defers = []) (hQ : Q (.returned (.tuple #[.agg #[x, y], v])) W) : bodyPost Try.prog Try.f84 Q Exit.ret a W :=
  bodyPost_ret (v := .tuple #[.agg #[x, y], v]) (by simp [results, Try.results84, go_sem, h6, h7, hbox.1, hbox.2.1]) hd hQ
theorem putsigned_post {Q : Ending → World → Prop} {a : Act} {W : World} {g : Nat} {x y v : Value} (hbox : Box W g x y) (h6 : a.tmps[6]?.getD undef = .pointer (some ⟨g, 0, none⟩)) (h7 : a.tmps[7]?.getD undef = v)
    (hd : a.defers = []) (hQ : Q (.returned (.tuple #[.agg #[x, y], v])) W) : bodyPost Try.prog Try.f86 Q Exit.ret a W :=
  bodyPost_ret (v := .tuple #[.agg #[x, y], v]) (by simp [results, Try.results86, go_sem, h6, h7, hbox.1, hbox.2.1]) hd hQ
def errW : Value := .tuple #[.agg #[.string ⟨#[]⟩, .int .i64 0], .int .i64 1]
theorem box2_now (w : World) (x y x' y' : Value) (t t' : TypeId) : Box ((w.alloc (.cells #[x, y] t)).alloc (.cells #[x', y'] t')) w.heap.size x y ∧ Box ((w.alloc (.cells #[x, y] t)).alloc (.cells #[x', y'] t')) (w.heap.size + 1) x' y' ∧ Below w.heap.size w ((w.alloc (.cells #[x, y] t)).alloc (.cells #[x', y'] t')) :=
  box2_kept (bq_refl _)
theorem putplain_bad (s : ByteArray) (f v n : Int) (w : World) (h : n < 0 ∨ 31 < n ∨ v < 0) :
    Calls Try.prog 84 #[.agg #[.string s, .int .i64 f], .int .i64 v, .int .i64 n] w fun e w' => e = .returned errW ∧ Below w.heap.size w w' := by
  obtain ⟨C, D, H⟩ := box2_now w (.string s) (.int .i64 f) (.string ⟨#[]⟩) (.int .i64 0) 40 40
  have HC := Lib.hid C
  have HD := Lib.hid D
  have HH := Lib.hid H
  clear C D H
  by_cases hn : n < 0 ∨ 31 < n
  · have HN := Lib.hid hn
    clear hn h
    go_enter Try.func84, Try.ntmps84
    go_wp2_with fail
    refine (isfield_no n _ HN.out).mono ?_
    rintro e w1 ⟨rfl, rfl⟩
    go_wp2_with fail
    exact bodyPost_ret (v := errW) (by simp [results, Try.results84, go_sem, errW]) rfl ⟨rfl, HH.out⟩
  · have hv : v < 0 := by omega
    have n0 : 0 ≤ n := by omega
    have n1 : n ≤ 31 := by omega
    clear hn h
    go_enter Try.func84, Try.ntmps84
    go_wp2_with fail
    refine (isfield_yes n _ n0 n1).mono ?_
    rintro e w1 ⟨rfl, rfl⟩
    go_wp2_with fail
    exact bodyPost_ret (v := errW) (by simp [results, Try.results84, go_sem, errW]) rfl ⟨rfl, HH.out⟩
theorem putplain_nat (s : ByteArray) (f : Int) (v n : Nat) (w : World) (hs : s.size ≤ 1099511627776) (hn : n ≤ 31) :
    Calls Try.prog 84 #[.agg #[.string s, .int .i64 f], .int .i64 v, .int .i64 n] w fun e w' =>
      e = .returned (if v < B.P2 n then .tuple #[.agg #[.string (bs (B.putL s.data.toList (nf s f) v n)), .int .i64 (B.putF s.size (nf s f) n : Int)], .int .i64 0] else errW) ∧ Below w.heap.size w w' := by
  have hpb : B.P2 n ≤ 2147483648 := B.P2_le (b := 31) hn
  have e2 : wrap64 (2 ^ n) = (B.P2 n : Int) := by rw [P2_cast]; exact i64_id _ (by omega) (by omega)
  by_cases hv : v < B.P2 n
  · rw [if_pos hv]
    have HP := Lib.hid (fun w => put_any s f v n w hs hn hv)
    have hb : decide (wrap64 (2 ^ n) ≤ (v : Int)) = false := by rw [e2]; simp; omega
    clear e2
    go_enter Try.func84, Try.ntmps84
    go_wp2_with fail
    refine (isfield_yes n _ (by omega) (by omega)).mono ?_
    rintro e w1 ⟨rfl, rfl⟩
    go_wp2_with fail
    refine (HP.out _).mono ?_
    rintro e w1 ⟨rfl, hb1⟩
    obtain ⟨⟨c0, c1, f0, f1, cz⟩, ⟨d0, d1, g0, g1, hz⟩, H⟩ := box2_kept hb1
    have H1 := Lib.hid H
    clear hb1 H
    go_wp2_with fail
    exact putplain_post ((Box.set0 ⟨d0, d1, g0, g1, hz⟩ _).set1 _) rfl rfl rfl ⟨rfl, bq_set (bq_set H1.out _ (by simp) _) _ (by simp) _⟩
  · rw [if_neg hv]
    have hb : decide (wrap64 (2 ^ n) ≤ (v : Int)) = true := by rw [e2]; simp; omega
    clear e2
    go_enter Try.func84, Try.ntmps84
    go_wp2_with fail
    refine (isfield_yes n _ (by omega) (by omega)).mono ?_
    rintro e w1 ⟨rfl, rfl⟩
    go_wp2_with fail
    exact bodyPost_ret (v := errW) (by simp [results, Try.results84, go_sem, errW]) rfl ⟨rfl, (box2_now w _ _ _ _ _ _).2.2⟩
def ppR (s : ByteArray) (f : Int) (v n : Nat) : Value := .tuple #[.agg #[.string (bs (B.putL s.data.toList (nf s f) v n)), .int .i64 (B.putF s.size (nf s f) n : Int)], .int .i64 0]
def ppOk (v n : Int) : Bool := decide (0 ≤ n) && decide (n ≤ 31) && decide (0 ≤ v) && decide (v.toNat < B.P2 n.toNat)
theorem putplain_any (s : ByteArray) (f v n : Int) (w : World) (hs : s.size ≤ 1099511627776) :
    Calls Try.prog 84 #[.agg #[.string s, .int .i64 f], .int .i64 v, .int .i64 n] w fun e w' => e = .returned (if ppOk v n = true then ppR s f v.toNat n.toNat else errW) ∧ Below w.heap.size w w' := by
  by_cases h : 0 ≤ n ∧ n ≤ 31 ∧ 0 ≤ v
  · obtain ⟨N, rfl⟩ := Int.eq_ofNat_of_zero_le h.1
    obtain ⟨V, rfl⟩ := Int.eq_ofNat_of_zero_le h.2.2
    have hp := putplain_nat s f V N w hs (by omega)
    have e : ppOk V N = decide (V < B.P2 N) := by simp [ppOk]; omega
    rw [e]
    simpa [ppR] using hp
  · have e : ppOk v n = false := by
      unfold ppOk
      by_cases h1 : 0 ≤ n <;> by_cases h2 : n ≤ 31 <;> by_cases h3 : 0 ≤ v <;> simp [h1, h2, h3] <;> exact absurd ⟨h1, h2, h3⟩ h
    rw [e]
    exact putplain_bad s f v n w (by omega)
theorem putsigned_bad (s : ByteArray) (f v n : Int) (w : World) (v0 : -9223372036854775808 ≤ v) (v1 : v ≤ 9223372036854775807) (h : n < 0 ∨ 31 < n ∨ n < wd v) :
    Calls Try.prog 86 #[.agg #[.string s, .int .i64 f], .int .i64 v, .int .i64 n] w fun e w' => e = .returned errW ∧ Below w.heap.size w w' := by
  have HH := Lib.hid (box2_now w (.string s) (.int .i64 f) (.string ⟨#[]⟩) (.int .i64 0) 40 40).2.2
  by_cases hn : n < 0 ∨ 31 < n
  · have HN := Lib.hid hn
    clear hn h
    go_enter Try.func86, Try.ntmps86
    go_wp2_with fail
    refine (isfield_no n _ HN.out).mono ?_
    rintro e w1 ⟨rfl, rfl⟩
    go_wp2_with fail
    exact bodyPost_ret (v := errW) (by simp [results, Try.results86, go_sem, errW]) rfl ⟨rfl, HH.out⟩
  · have hv : n < wd v := by omega
    have n0 : 0 ≤ n := by omega
    have n1 : n ≤ 31 := by omega
    have HW := Lib.hid (fun w => width_any v w v0 v1)
    generalize wd v = y at *
    clear hn h
    go_enter Try.func86, Try.ntmps86
    go_wp2_with fail
    refine (isfield_yes n _ n0 n1).mono ?_
    rintro e w1 ⟨rfl, rfl⟩
    go_wp2_with fail
    refine (HW.out _).mono ?_
    rintro e w1 ⟨rfl, rfl⟩
    go_wp2_with fail
    exact bodyPost_ret (v := errW) (by simp [results, Try.results86, go_sem, errW]) rfl ⟨rfl, HH.out⟩
theorem putsigned_ok (s : ByteArray) (f v : Int) (u n : Nat) (w : World) (hs : s.size ≤ 1099511627776) (v0 : -9223372036854775808 ≤ v) (v1 : v ≤ 9223372036854775807) (hn : n ≤ 31) (hw : wd v ≤ n)
    (hu : u < B.P2 n) (HU : Hid (v < 0 ∧ wrap64 (v + wrap64 (2 ^ n)) = u ∨ 0 ≤ v ∧ v = u)) :
    Calls Try.prog 86 #[.agg #[.string s, .int .i64 f], .int .i64 v, .int .i64 n] w fun e w' => e = .returned (ppR s f u n) ∧ Below w.heap.size w w' := by
  have HP := Lib.hid (fun w => put_any s f u n w hs hn hu)
  have HW := Lib.hid (fun w => width_any v w v0 v1)
  generalize wd v = y at *
  clear hu
  unfold ppR
  rcases HU.out with ⟨hv, hw2⟩ | ⟨hv, hw2⟩
  · have HW2 := Lib.hid hw2
    clear hw2 HU
    go_enter Try.func86, Try.ntmps86
    go_wp2_with fail
    refine (isfield_yes n _ (by omega) (by omega)).mono ?_
    rintro e w1 ⟨rfl, rfl⟩
    go_wp2_with fail
    refine (HW.out _).mono ?_
    rintro e w1 ⟨rfl, rfl⟩
    go_wp2_with fail
    rw [HW2.out]
    refine (HP.out _).mono ?_
    rintro e w1 ⟨rfl, hb1⟩
    obtain ⟨⟨c0, c1, f0, f1, cz⟩, ⟨d0, d1, g0, g1, hz⟩, H⟩ := box2_kept hb1
    have H1 := Lib.hid H
    clear hb1 H
    go_wp2_with fail
    exact putsigned_post ((Box.set0 ⟨d0, d1, g0, g1, hz⟩ _).set1 _) rfl rfl rfl ⟨rfl, bq_set (bq_set H1.out _ (by simp) _) _ (by simp) _⟩
  · subst hw2
    clear HU
    go_enter Try.func86, Try.ntmps86
    go_wp2_with fail
    refine (isfield_yes n _ (by omega) (by omega)).mono ?_
    rintro e w1 ⟨rfl, rfl⟩
    go_wp2_with fail
    refine (HW.out _).mono ?_
    rintro e w1 ⟨rfl, rfl⟩
    go_wp2_with fail
    refine (HP.out _).mono ?_
    rintro e w1 ⟨rfl, hb1⟩
    obtain ⟨⟨c0, c1, f0, f1, cz⟩, ⟨d0, d1, g0, g1, hz⟩, H⟩ := box2_kept hb1
    have H1 := Lib.hid H
    clear hb1 H
    go_wp2_with fail
    exact putsigned_post ((Box.set0 ⟨d0, d1, g0, g1, hz⟩ _).set1 _) rfl rfl rfl ⟨rfl, bq_set (bq_set H1.out _ (by simp) _) _ (by simp) _⟩
def sgU (v : Int) (n : Nat) : Nat := if v < 0 then (v + B.P2 n).toNat else v.toNat
def psOk (v n : Int) : Bool := decide (0 ≤ n) && decide (n ≤ 31) && decide ((wd v : Int) ≤ n)
theorem sgU_lt (v : Int) (n : Nat) (v0 : -9223372036854775808 ≤ v) (v1 : v ≤ 9223372036854775807) (hn : n ≤ 31) (hw : wd v ≤ n) : sgU v n < B.P2 n ∧ (v < 0 → -(B.P2 n : Int) ≤ 2 * v) ∧ (0 ≤ v → 2 * v < B.P2 n) := by
  by_cases h0 : v = 0
  · subst h0; exact ⟨B.P2_pos n, by omega, by have := B.P2_pos n; omega⟩
  · have hp := wd_pos v h0
    have hi := (wd_iff v (n - 1) h0 v0 v1 (by omega)).1 (by omega)
    have hP := B.P2_succ (n - 1)
    rw [show n - 1 + 1 = n by omega] at hP
    unfold sgU
    split <;> omega
theorem putsigned_any (s : ByteArray) (f v n : Int) (w : World) (hs : s.size ≤ 1099511627776) (v0 : -9223372036854775808 ≤ v) (v1 : v ≤ 9223372036854775807) :
    Calls Try.prog 86 #[.agg #[.string s, .int .i64 f], .int .i64 v, .int .i64 n] w fun e w' => e = .returned (if psOk v n = true then ppR s f (sgU v n.toNat) n.toNat else errW) ∧ Below w.heap.size w w' := by
  by_cases h : 0 ≤ n ∧ n ≤ 31 ∧ (wd v : Int) ≤ n
  · obtain ⟨N, rfl⟩ := Int.eq_ofNat_of_zero_le h.1
    have e : psOk v N = true := by simp [psOk]; omega
    rw [e, if_pos rfl]
    have hu := (sgU_lt v N v0 v1 (by omega) (by omega))
    have hpb : B.P2 N ≤ 2147483648 := B.P2_le (b := 31) (by omega)
    have e2 : wrap64 (2 ^ N) = (B.P2 N : Int) := by rw [P2_cast]; exact i64_id _ (by omega) (by omega)
    refine putsigned_ok s f v (sgU v N) N w hs v0 v1 (by omega) (by omega) hu.1 (Lib.hid ?_)
    rw [e2]
    unfold sgU
    by_cases hv : v < 0
    · left
      have := hu.2.1 hv
      rw [if_pos hv, i64_id _ (by omega) (by omega)]
      omega
    · right
      rw [if_neg hv]
      omega
  · have e : psOk v n = false := by
      unfold psOk
      by_cases h1 : 0 ≤ n <;> by_cases h2 : n ≤ 31 <;> by_cases h3 : (wd v : Int) ≤ n <;> simp [h1, h2, h3] <;> exact absurd ⟨h1, h2, h3⟩ h
    rw [e]
    exact putsigned_bad s f v n w v0 v1 (by omega)
end Go.Proofs.Ythlnjipefeglpaa
namespace Go.Proofs.Ythlnjipefeglpaa
open Go.RowKit
set_option linter.unusedVariables false
def RPRel (s : ByteArray) (a n : Nat) (v i : Value) : Prop := ∃ k x : Nat, k ≤ n ∧ i = .int .i64 k ∧ v = .int .i64 (x : Int) ∧ x = B.fld s.data.toList a k
attribute [local go_sem ↓] Go.wp_at_zero Go.wp_at_succ
end Go.Proofs.Ythlnjipefeglpaa
namespace Go.Proofs.Ythlnjipefeglpaa
open Go.RowKit
set_option linter.unusedVariables false
def sgV (s : ByteArray) (a n : Int) : Int := if 0 < n ∧ B.P2 n.toNat ≤ 2 * (plV s a n).toNat then plV s a n - B.P2 n.toNat else plV s a n
def sgR (s : ByteArray) (a n : Int) : Value := .tuple #[.int .i64 (sgV s a n), .agg #[.string (plS s a n), .int .i64 (plA s a n)], .int .i64 (plE s.size a n)]
theorem signed_post {Q : Ending → World → Prop} {a : Act} {W : World} {g : Nat} {x y u v : Value} (hbox : Box W g x y) (h4 : a.tmps[4]?.getD undef = u) (h5 : a.tmps[5]?.getD undef = .pointer (some ⟨g, 0, none⟩)) (h6 : a.tmps[6]?.getD undef = v)
    (hd : a.defers = []) (hQ : Q (.returned (.tuple #[u, .agg #[x, y], v])) W) : bodyPost Try.prog Try.f104 Q Exit.ret a W :=
  bodyPost_ret (v := .tuple #[u, .agg #[x, y], v]) (by simp [results, Try.results104, go_sem, h4, h5, h6, hbox.1, hbox.2.1]) hd hQ
theorem signed_err (s t : ByteArray) (a n A E : Int) (w : World) (hE : (E == 0) = false)
    (HP : Hid (∀ w, Calls Try.prog 103 #[.agg #[.string s, .int .i64 a], .int .i64 n] w fun e w' => e = .returned (.tuple #[.int .i64 0, .agg #[.string t, .int .i64 A], .int .i64 E]) ∧ Below w.heap.size w w')) :
    Calls Try.prog 104 #[.agg #[.string s, .int .i64 a], .int .i64 n] w fun e w' => e = .returned (.tuple #[.int .i64 0, .agg #[.string t, .int .i64 A], .int .i64 E]) ∧ Below w.heap.size w w' := by
  go_enter Try.func104, Try.ntmps104
  go_wp2_with fail
  refine (HP.out _).mono ?_
  rintro e w1 ⟨rfl, hb⟩
  obtain ⟨⟨c0, c1, _, _, _⟩, ⟨d0, d1, g0, g1, hz⟩, H⟩ := box2_kept hb
  have H1 := Lib.hid H
  clear hb H
  go_wp2_with fail
  have BN := box_new w1 (.string t) (.int .i64 A) 46
  have BR := Box.alloc ⟨d0, d1, g0, g1, hz⟩ (.cells #[.string t, .int .i64 A] 46)
  have HB := Lib.hid (bq_alloc H1.out (.cells #[.string t, .int .i64 A] 46))
  generalize w1.alloc (.cells #[.string t, .int .i64 A] 46) = W at BN BR HB ⊢
  have ne1 : ¬ w.heap.size + 1 = w1.heap.size := by omega
  have ne2 : ¬ w1.heap.size = w.heap.size + 1 := by omega
  obtain ⟨p0, p1, _, _, _⟩ := BN
  obtain ⟨q0, q1, k0, k1, kz⟩ := BR
  clear c0 c1 d0 d1 g0 g1 H1
  go_region_held3 (fun w' => w'.cell? ⟨w1.heap.size, 0, none⟩ = some (.string t) ∧ w'.cell? ⟨w1.heap.size, 1, none⟩ = some (.int .i64 A)) (go_keep) (fail)
  go_wp2
  exact signed_post (((Box.drewN ⟨q0, q1, k0, k1, kz⟩ _).set0 _).set1 _) rfl rfl rfl rfl ⟨rfl, bq_set (bq_set (bq_drewN HB.out _) _ (by simp) _) _ (by simp) _⟩
theorem signed_num (s t : ByteArray) (a A : Int) (n x : Nat) (w : World) (z : Int) (hn : n ≤ 31) (hx : x ≤ 2147483648)
    (HZ : Hid (x < B.P2 n ∧ (0 < n ∧ B.P2 n ≤ 2 * x ∧ z = (x : Int) - B.P2 n ∨ (n = 0 ∨ 2 * x < B.P2 n) ∧ z = x)))
    (HP : Hid (∀ w, Calls Try.prog 103 #[.agg #[.string s, .int .i64 a], .int .i64 n] w fun e w' => e = .returned (.tuple #[.int .i64 x, .agg #[.string t, .int .i64 A], .int .i64 0]) ∧ Below w.heap.size w w')) :
    Calls Try.prog 104 #[.agg #[.string s, .int .i64 a], .int .i64 n] w fun e w' => e = .returned (.tuple #[.int .i64 z, .agg #[.string t, .int .i64 A], .int .i64 0]) ∧ Below w.heap.size w w' := by
  by_cases hn0 : n = 0
  · have hz0 : z = x := by rcases HZ.out.2 with h | h <;> omega
    subst hn0
    subst hz0
    clear HZ
    go_enter Try.func104, Try.ntmps104
    go_wp2_with fail
    refine (HP.out _).mono ?_
    rintro e w1 ⟨rfl, hb⟩
    obtain ⟨⟨c0, c1, _, _, _⟩, ⟨d0, d1, g0, g1, hz⟩, H⟩ := box2_kept hb
    have H1 := Lib.hid H
    clear hb H
    go_wp2_with fail
    have BN := box_new w1 (.string t) (.int .i64 A) 46
    have BR := Box.alloc ⟨d0, d1, g0, g1, hz⟩ (.cells #[.string t, .int .i64 A] 46)
    have HB := Lib.hid (bq_alloc H1.out (.cells #[.string t, .int .i64 A] 46))
    generalize w1.alloc (.cells #[.string t, .int .i64 A] 46) = W at BN BR HB ⊢
    have ne1 : ¬ w.heap.size + 1 = w1.heap.size := by omega
    have ne2 : ¬ w1.heap.size = w.heap.size + 1 := by omega
    obtain ⟨p0, p1, _, _, _⟩ := BN
    obtain ⟨q0, q1, k0, k1, kz⟩ := BR
    clear c0 c1 d0 d1 g0 g1 H1
    go_region_held3 (fun w' => w'.cell? ⟨w1.heap.size, 0, none⟩ = some (.string t) ∧ w'.cell? ⟨w1.heap.size, 1, none⟩ = some (.int .i64 A)) (go_keep) (fail)
    go_wp2
    exact signed_post (((Box.drewN ⟨q0, q1, k0, k1, kz⟩ _).set0 _).set1 _) rfl rfl rfl rfl ⟨rfl, bq_set (bq_set (bq_drewN HB.out _) _ (by simp) _) _ (by simp) _⟩
  · have hn1 : 1 ≤ n := by omega
    have hp := B.P2_succ (n - 1)
    rw [show n - 1 + 1 = n by omega] at hp
    have hpb : B.P2 n ≤ 2147483648 := B.P2_le (b := 31) hn
    have hp0 := B.P2_pos (n - 1)
    obtain ⟨hxp, hzz⟩ := HZ.out
    clear hn0 HZ
    by_cases ht : B.P2 n ≤ 2 * x
    · have hb1 : ((x : Int) / 2 ^ (n - 1) == 1) = true := by
        rw [div_pow, beq_iff_eq, show x / B.P2 (n - 1) = 1 from (Nat.div_eq_iff hp0).2 (by omega)]
        rfl
      have HE : Hid (wrap64 ((x : Int) - wrap64 (2 ^ n)) = z) := Lib.hid (by rw [P2_cast, i64_id (B.P2 n : Int) (by omega) (by omega), i64_id _ (by omega) (by omega)]; omega)
      clear hp hpb hp0 hxp hzz ht
      go_enter Try.func104, Try.ntmps104
      go_wp2_with fail
      refine (HP.out _).mono ?_
      rintro e w1 ⟨rfl, hb⟩
      obtain ⟨⟨c0, c1, _, _, _⟩, ⟨d0, d1, g0, g1, hz⟩, H⟩ := box2_kept hb
      have H1 := Lib.hid H
      clear hb H
      go_wp2_with fail
      have BN := box_new w1 (.string t) (.int .i64 A) 46
      have BR := Box.alloc ⟨d0, d1, g0, g1, hz⟩ (.cells #[.string t, .int .i64 A] 46)
      have HB := Lib.hid (bq_alloc H1.out (.cells #[.string t, .int .i64 A] 46))
      generalize w1.alloc (.cells #[.string t, .int .i64 A] 46) = W at BN BR HB ⊢
      have ne1 : ¬ w.heap.size + 1 = w1.heap.size := by omega
      have ne2 : ¬ w1.heap.size = w.heap.size + 1 := by omega
      obtain ⟨p0, p1, _, _, _⟩ := BN
      obtain ⟨q0, q1, k0, k1, kz⟩ := BR
      clear c0 c1 d0 d1 g0 g1 H1
      go_region_held3 (fun w' => w'.cell? ⟨w1.heap.size, 0, none⟩ = some (.string t) ∧ w'.cell? ⟨w1.heap.size, 1, none⟩ = some (.int .i64 A)) (go_keep) (fail)
      go_wp2
      exact signed_post (((Box.drewN ⟨q0, q1, k0, k1, kz⟩ _).set0 _).set1 _) rfl rfl rfl rfl ⟨by rw [← HE.out]; rfl, bq_set (bq_set (bq_drewN HB.out _) _ (by simp) _) _ (by simp) _⟩
    · have hb1 : ((x : Int) / 2 ^ (n - 1) == 1) = false := by
        rw [div_pow, beq_eq_false_iff_ne, Nat.div_eq_of_lt (by omega)]
        decide
      obtain rfl : z = x := by omega
      clear hp hpb hp0 hxp hzz ht
      go_enter Try.func104, Try.ntmps104
      go_wp2_with fail
      refine (HP.out _).mono ?_
      rintro e w1 ⟨rfl, hb⟩
      obtain ⟨⟨c0, c1, _, _, _⟩, ⟨d0, d1, g0, g1, hz⟩, H⟩ := box2_kept hb
      have H1 := Lib.hid H
      clear hb H
      go_wp2_with fail
      have BN := box_new w1 (.string t) (.int .i64 A) 46
      have BR := Box.alloc ⟨d0, d1, g0, g1, hz⟩ (.cells #[.string t, .int .i64 A] 46)
      have HB := Lib.hid (bq_alloc H1.out (.cells #[.string t, .int .i64 A] 46))
      generalize w1.alloc (.cells #[.string t, .int .i64 A] 46) = W at BN BR HB ⊢
      have ne1 : ¬ w.heap.size + 1 = w1.heap.size := by omega
      have ne2 : ¬ w1.heap.size = w.heap.size + 1 := by omega
      obtain ⟨p0, p1, _, _, _⟩ := BN
      obtain ⟨q0, q1, k0, k1, kz⟩ := BR
      clear c0 c1 d0 d1 g0 g1 H1
      go_region_held3 (fun w' => w'.cell? ⟨w1.heap.size, 0, none⟩ = some (.string t) ∧ w'.cell? ⟨w1.heap.size, 1, none⟩ = some (.int .i64 A)) (go_keep) (fail)
      go_wp2
      exact signed_post (((Box.drewN ⟨q0, q1, k0, k1, kz⟩ _).set0 _).set1 _) rfl rfl rfl rfl ⟨rfl, bq_set (bq_set (bq_drewN HB.out _) _ (by simp) _) _ (by simp) _⟩
theorem sg_cases (s : ByteArray) (a n : Int) : (∃ E A t, plR s a n = .tuple #[.int .i64 0, .agg #[.string t, .int .i64 A], .int .i64 E] ∧ (E == 0) = false ∧ sgR s a n = plR s a n) ∨
    (∃ N x : Nat, ∃ A z t, n = N ∧ N ≤ 31 ∧ x ≤ 2147483648 ∧ plR s a n = .tuple #[.int .i64 x, .agg #[.string t, .int .i64 A], .int .i64 0] ∧ sgR s a n = .tuple #[.int .i64 z, .agg #[.string t, .int .i64 A], .int .i64 0] ∧
      (x < B.P2 N ∧ (0 < N ∧ B.P2 N ≤ 2 * x ∧ z = (x : Int) - B.P2 N ∨ (N = 0 ∨ 2 * x < B.P2 N) ∧ z = x))) := by
  by_cases h : plE s.size a n = 0
  · right
    have hn : 0 ≤ n ∧ n ≤ 31 := by
      unfold plE at h
      split at h
      · omega
      · cases h
    obtain ⟨N, rfl⟩ := Int.eq_ofNat_of_zero_le hn.1
    obtain ⟨x, hx⟩ : ∃ x : Nat, x = B.fld s.data.toList a.toNat N := ⟨_, rfl⟩
    have hv : plV s a N = x := by unfold plV; rw [if_pos h, hx]; rfl
    have hlt : x < B.P2 N := by rw [hx]; exact B.fld_lt _ _ _
    have hP : B.P2 N ≤ B.P2 31 := B.P2_le (by omega)
    have hP2 : B.P2 31 = 2147483648 := rfl
    refine ⟨N, x, plA s a N, sgV s a N, plS s a N, rfl, by omega, by omega, by rw [plR, hv, h], by rw [sgR, h], hlt, ?_⟩
    unfold sgV
    rw [hv, Int.toNat_natCast, Int.toNat_natCast]
    by_cases c : 0 < (N : Int) ∧ B.P2 N ≤ 2 * x
    · left; rw [if_pos c]; exact ⟨by omega, c.2, rfl⟩
    · right; rw [if_neg c]; exact ⟨by omega, rfl⟩
  · left
    have hv : plV s a n = 0 := if_neg h
    refine ⟨plE s.size a n, plA s a n, plS s a n, by rw [plR, hv], by rw [beq_eq_false_iff_ne]; exact h, ?_⟩
    have hs : sgV s a n = 0 := by
      unfold sgV
      rw [hv, if_neg]
      have := B.P2_pos n.toNat
      simp
      omega
    rw [sgR, hs, plR, hv]
theorem signed_any (s : ByteArray) (a n : Int) (w : World) (hs : s.size ≤ 1099511627776) :
    Calls Try.prog 104 #[.agg #[.string s, .int .i64 a], .int .i64 n] w fun e w' => e = .returned (sgR s a n) ∧ Below w.heap.size w w' := by
  have HP := fun w => plain_any s a n w hs
  rcases sg_cases s a n with ⟨E, A, t, h1, h2, h3⟩ | ⟨N, x, A, z, t, rfl, h1, h2, h3, h4, h5⟩
  · rw [h3, h1]; rw [h1] at HP; exact signed_err s t a n A E w h2 (Lib.hid HP)
  · rw [h4]; rw [h3] at HP; exact signed_num s t a A N x w z h1 h2 (Lib.hid h5) (Lib.hid HP)
end Go.Proofs.Ythlnjipefeglpaa
