import Derived.Test.YtoofjcpapidgdaaBi1
import Derived.Test.YtoofjcpapidgdaaBq
import Derived.StillTailTactics
import Derived.Deep.RegionHeld3
import Derived.Deep.DrawnRows
/- Layer 2: the next field of a reader. -/
namespace Go.Proofs.Ytoofjcpapidgdaa
open Go.RowKit
set_option linter.unusedVariables false

theorem isfield_yes (n : Int) (w : World) (h0 : 0 ≤ n) (h1 : n ≤ 31) : Calls Try.prog 34 #[.int .i64 n] w fun e w' => e = .returned (.bool true) ∧ w = w' :=
  (isfield_any n w).mono fun e w' ⟨he, hw⟩ => ⟨by rw [he]; simp; omega, hw⟩
theorem isfield_no (n : Int) (w : World) (h : n < 0 ∨ 31 < n) : Calls Try.prog 34 #[.int .i64 n] w fun e w' => e = .returned (.bool false) ∧ w = w' :=
  (isfield_any n w).mono fun e w' ⟨he, hw⟩ => ⟨by rw [he]; simp; omega, hw⟩
theorem isright_yes (s : ByteArray) (a : Int) (w : World) (hs : s.size ≤ 1099511627776) (h0 : 0 ≤ a) (h1 : a ≤ 8 * s.size) : Calls Try.prog 33 #[.agg #[.string s, .int .i64 a]] w fun e w' => e = .returned (.bool true) ∧ Below w.heap.size w w' :=
  (isright_any s a w hs).mono fun e w' ⟨he, hw⟩ => ⟨by rw [he]; simp; omega, hw⟩
theorem isright_no (s : ByteArray) (a : Int) (w : World) (hs : s.size ≤ 1099511627776) (h : a < 0 ∨ 8 * s.size < a) : Calls Try.prog 33 #[.agg #[.string s, .int .i64 a]] w fun e w' => e = .returned (.bool false) ∧ Below w.heap.size w w' :=
  (isright_any s a w hs).mono fun e w' ⟨he, hw⟩ => ⟨by rw [he]; simp; omega, hw⟩
theorem bcell {W w1 : World} (hb : Below W.heap.size W w1) : (∀ b o, b < W.heap.size → w1.cell? ⟨b, o, none⟩ = W.cell? ⟨b, o, none⟩) ∧ (∀ b o, b < W.heap.size → w1.frozen? ⟨b, o, none⟩ = W.frozen? ⟨b, o, none⟩) :=
  ⟨fun b o h => hb.cell (p := ⟨b, o, none⟩) h, fun b o h => hb.frozen (p := ⟨b, o, none⟩) h⟩

def errR (e : Int) : Value := .tuple #[.int .i64 0, .agg #[.string ⟨#[]⟩, .int .i64 0], .int .i64 e]

def plE (m : Nat) (a n : Int) : Int := if 0 ≤ a ∧ a ≤ 8 * m ∧ 0 ≤ n ∧ n ≤ 31 then (if 8 * m - a < n then 2 else 0) else 1
def plV (s : ByteArray) (a n : Int) : Int := if plE s.size a n = 0 then (B.fld s.data.toList a.toNat n.toNat : Int) else 0
def plS (s : ByteArray) (a n : Int) : ByteArray := if plE s.size a n = 0 then s else ⟨#[]⟩
def plA (s : ByteArray) (a n : Int) : Int := if plE s.size a n = 0 then a + n else 0
def plR (s : ByteArray) (a n : Int) : Value := .tuple #[.int .i64 (plV s a n), .agg #[.string (plS s a n), .int .i64 (plA s a n)], .int .i64 (plE s.size a n)]
theorem plR_arg {s : ByteArray} {a n : Int} (h : ¬ (0 ≤ a ∧ a ≤ 8 * s.size ∧ 0 ≤ n ∧ n ≤ 31)) : plR s a n = errR 1 := by
  have e : plE s.size a n = 1 := if_neg h
  simp [plR, plV, plS, plA, e, errR]
theorem plR_short {s : ByteArray} {a n : Int} (h : 0 ≤ a ∧ a ≤ 8 * s.size ∧ 0 ≤ n ∧ n ≤ 31) (h2 : 8 * s.size - a < n) : plR s a n = errR 2 := by
  have e : plE s.size a n = 2 := by unfold plE; rw [if_pos h, if_pos h2]
  simp [plR, plV, plS, plA, e, errR]
theorem plE_ok {s : ByteArray} {a n : Nat} (h1 : n ≤ 31) (h2 : a + n ≤ 8 * s.size) : plE s.size a n = 0 := by
  unfold plE; rw [if_pos (by omega), if_neg (by omega)]
theorem plR_ok {s : ByteArray} {a n : Nat} (h1 : n ≤ 31) (h2 : a + n ≤ 8 * s.size) :
    plR s a n = .tuple #[.int .i64 (B.fld s.data.toList a n : Int), .agg #[.string s, .int .i64 ((a + n : Nat) : Int)], .int .i64 0] := by
  have e := plE_ok h1 h2
  simp [plR, plV, plS, plA, e]
theorem plain_bad1 (s : ByteArray) (a n : Int) (w : World) (hs : s.size ≤ 1099511627776) (h : a < 0 ∨ 8 * s.size < a) :
    Calls Try.prog 10 #[.agg #[.string s, .int .i64 a], .int .i64 n] w fun e w' => e = .returned (errR 1) ∧ Below w.heap.size w w' := by
  have H := Lib.hid h
  clear h
  go_enter Try.func10, Try.ntmps10
  go_wp2_with fail
  refine (isright_no s a _ hs H.out).mono ?_
  rintro e w1 ⟨rfl, hb⟩
  obtain ⟨hc, hf⟩ := bcell hb
  have hz : w.heap.size + 1 < w1.heap.size := by have := hb.size; simp at this; omega
  have H1 := Lib.hid (bq_trans (bq_alloc (bq_alloc (bq_refl w) _) _) hb)
  clear hb
  go_wp2_with fail
  exact bodyPost_ret (v := errR 1) (by simp [results, Try.results10, go_sem, hc, errR]) rfl ⟨rfl, bq_set (bq_set H1.out _ (by simp) _) _ (by simp) _⟩
theorem plain_bad2 (s : ByteArray) (a n : Int) (w : World) (hs : s.size ≤ 1099511627776) (h0 : 0 ≤ a) (h1 : a ≤ 8 * s.size) (h : n < 0 ∨ 31 < n) :
    Calls Try.prog 10 #[.agg #[.string s, .int .i64 a], .int .i64 n] w fun e w' => e = .returned (errR 1) ∧ Below w.heap.size w w' := by
  have H := Lib.hid h
  clear h
  go_enter Try.func10, Try.ntmps10
  go_wp2_with fail
  refine (isright_yes s a _ hs h0 h1).mono ?_
  rintro e w1 ⟨rfl, hb⟩
  obtain ⟨hc, hf⟩ := bcell hb
  have hz : w.heap.size + 1 < w1.heap.size := by have := hb.size; simp at this; omega
  have H1 := Lib.hid (bq_trans (bq_alloc (bq_alloc (bq_refl w) _) _) hb)
  clear hb
  go_wp2_with fail
  refine (isfield_no n _ H.out).mono ?_
  rintro e w' ⟨rfl, rfl⟩
  go_wp2_with fail
  exact bodyPost_ret (v := errR 1) (by simp [results, Try.results10, go_sem, hc, errR]) rfl ⟨rfl, bq_set (bq_set H1.out _ (by simp) _) _ (by simp) _⟩
theorem plain_short (s : ByteArray) (a n : Int) (w : World) (hs : s.size ≤ 1099511627776) (h0 : 0 ≤ a) (h1 : a ≤ 8 * s.size) (h2 : 0 ≤ n) (h3 : n ≤ 31) (h4 : 8 * s.size - a < n) :
    Calls Try.prog 10 #[.agg #[.string s, .int .i64 a], .int .i64 n] w fun e w' => e = .returned (errR 2) ∧ Below w.heap.size w w' := by
  go_enter Try.func10, Try.ntmps10
  go_wp2_with fail
  refine (isright_yes s a _ hs h0 h1).mono ?_
  rintro e w1 ⟨rfl, hb⟩
  obtain ⟨hc, hf⟩ := bcell hb
  have hz : w.heap.size + 1 < w1.heap.size := by have := hb.size; simp at this; omega
  have H1 := Lib.hid (bq_trans (bq_alloc (bq_alloc (bq_refl w) _) _) hb)
  clear hb
  go_wp2_with fail
  refine (isfield_yes n _ h2 h3).mono ?_
  rintro e w' ⟨rfl, rfl⟩
  go_wp2_with fail
  exact bodyPost_ret (v := errR 2) (by simp [results, Try.results10, go_sem, hc, errR]) rfl ⟨rfl, bq_set (bq_set H1.out _ (by simp) _) _ (by simp) _⟩
theorem plain_post {Q : Ending → World → Prop} {a : Act} {W : World} {g : Nat} {x y u v : Value} (hbox : Box W g x y) (h4 : a.tmps[4]?.getD undef = u) (h5 : a.tmps[5]?.getD undef = .pointer (some ⟨g, 0, none⟩)) (h6 : a.tmps[6]?.getD undef = v)
    (hd : a.defers = []) (hQ : Q (.returned (.tuple #[u, .agg #[x, y], v])) W) : bodyPost Try.prog Try.f10 Q Exit.ret a W :=
  bodyPost_ret (v := .tuple #[u, .agg #[x, y], v]) (by simp [results, Try.results10, go_sem, h4, h5, h6, hbox.1, hbox.2.1]) hd hQ
attribute [local go_sem ↓] Go.wp_at_zero Go.wp_at_succ
set_option maxHeartbeats 1000000 in
theorem plain_ok (s : ByteArray) (a n : Nat) (w : World) (hs : s.size ≤ 1099511627776) (h3 : n ≤ 31) (h4 : a + n ≤ 8 * s.size) :
    Calls Try.prog 10 #[.agg #[.string s, .int .i64 a], .int .i64 n] w fun e w' => e = .returned (.tuple #[.int .i64 (B.fld s.data.toList a n : Int), .agg #[.string s, .int .i64 ((a + n : Nat) : Int)], .int .i64 0]) ∧ Below w.heap.size w w' := by
  have HN := fun w => number_any s a (a + n) w hs (by omega) (by omega) (by omega)
  rw [show a + n - a = n by omega, show ((a + n : Nat) : Int) = (a : Int) + (n : Int) by omega] at HN
  have HN2 := Lib.hid HN
  clear HN
  rw [show ((a + n : Nat) : Int) = (a : Int) + (n : Int) by omega]
  go_enter Try.func10, Try.ntmps10
  go_wp2_with fail
  refine (isright_yes s a _ hs (by omega) (by omega)).mono ?_
  rintro e w1 ⟨rfl, hb⟩
  obtain ⟨⟨c0, c1, _, _, _⟩, ⟨d0, d1, g0, g1, hz⟩, H⟩ := box2_kept hb
  have H1 := Lib.hid H
  clear hb H
  go_wp2_with fail
  refine (isfield_yes n _ (by omega) (by omega)).mono ?_
  rintro e w' ⟨rfl, rfl⟩
  go_wp2_with fail
  have ne1 : ¬ w.heap.size + 1 = w1.heap.size := by omega
  have ne2 : ¬ w1.heap.size = w.heap.size + 1 := by omega
  have ne3 : ¬ w.heap.size = w1.heap.size := by omega
  go_region_held3 (fun w' => w'.cell? ⟨w.heap.size, 0, none⟩ = some (.string s) ∧ w'.cell? ⟨w.heap.size, 1, none⟩ = some (.int .i64 a) ∧ w'.cell? ⟨w1.heap.size, 0, none⟩ = some (.string s) ∧ w'.cell? ⟨w1.heap.size, 1, none⟩ = some (.int .i64 ((a : Int) + (n : Int)))) (go_keep) (first | (go_at_call 35; refine (HN2.out _).mono ?_; rintro e w2 ⟨rfl, m, rfl⟩))
  all_goals go_wp2
  refine plain_post (((((Box.alloc (⟨d0, d1, g0, g1, hz⟩) _).drewN _).set0 _).set1 _)) rfl rfl rfl rfl ⟨rfl, bq_set (bq_set (bq_drewN (bq_alloc H1.out _) _) _ (by simp) _) _ (by simp) _⟩
theorem plain_any (s : ByteArray) (a n : Int) (w : World) (hs : s.size ≤ 1099511627776) :
    Calls Try.prog 10 #[.agg #[.string s, .int .i64 a], .int .i64 n] w fun e w' => e = .returned (plR s a n) ∧ Below w.heap.size w w' := by
  by_cases h : 0 ≤ a ∧ a ≤ 8 * s.size ∧ 0 ≤ n ∧ n ≤ 31
  · by_cases h2 : 8 * s.size - a < n
    · rw [plR_short h h2]; exact plain_short s a n w hs h.1 h.2.1 h.2.2.1 h.2.2.2 h2
    · obtain ⟨A, rfl⟩ := Int.eq_ofNat_of_zero_le h.1
      obtain ⟨N, rfl⟩ := Int.eq_ofNat_of_zero_le h.2.2.1
      rw [plR_ok (by omega) (by omega)]; exact plain_ok s A N w hs (by omega) (by omega)
  · rw [plR_arg h]
    by_cases h3 : 0 ≤ a ∧ a ≤ 8 * s.size
    · exact plain_bad2 s a n w hs h3.1 h3.2 (by omega)
    · exact plain_bad1 s a n w hs (by omega)

end Go.Proofs.Ytoofjcpapidgdaa
