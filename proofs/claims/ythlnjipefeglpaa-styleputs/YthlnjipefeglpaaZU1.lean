import Derived.Test.YthlnjipefeglpaaZU0
import Derived.StillTailTactics
import Derived.Deep.RegionHeld3
import Derived.Deep.DrawnRows
import Derived.Laws.IdiomStrings
import Derived.Laws.MakeOwn
import Derived.OwnWalk
import Derived.Deep.OwnRows
import Derived.Laws.AppendOwn
import Derived.KernelRfl
namespace Go.Proofs.Ythlnjipefeglpaa
open Go.RowKit
set_option linter.unusedVariables false
theorem isfield_yes (n : Int) (w : World) (h0 : 0 ≤ n) (h1 : n ≤ 31) : Calls Try.prog 99 #[.int .i64 n] w fun e w' => e = .returned (.bool true) ∧ w = w' :=
  (isfield_any n w).mono fun e w' ⟨he, hw⟩ => ⟨by rw [he]; simp; omega, hw⟩
theorem isfield_no (n : Int) (w : World) (h : n < 0 ∨ 31 < n) : Calls Try.prog 99 #[.int .i64 n] w fun e w' => e = .returned (.bool false) ∧ w = w' :=
  (isfield_any n w).mono fun e w' ⟨he, hw⟩ => ⟨by rw [he]; simp; omega, hw⟩
theorem isright_yes (s : ByteArray) (a : Int) (w : World) (hs : s.size ≤ 1099511627776) (h0 : 0 ≤ a) (h1 : a ≤ 8 * s.size) : Calls Try.prog 89 #[.agg #[.string s, .int .i64 a]] w fun e w' => e = .returned (.bool true) ∧ Below w.heap.size w w' :=
  (isright_any s a w hs).mono fun e w' ⟨he, hw⟩ => ⟨by rw [he]; simp; omega, hw⟩
theorem isright_no (s : ByteArray) (a : Int) (w : World) (hs : s.size ≤ 1099511627776) (h : a < 0 ∨ 8 * s.size < a) : Calls Try.prog 89 #[.agg #[.string s, .int .i64 a]] w fun e w' => e = .returned (.bool false) ∧ Below w.heap.size w w' :=
  (isright_any s a w hs).mono fun e w' ⟨he, hw⟩ => ⟨by rw [he]; simp; omega, hw⟩
theorem bcell {W w1 : World} (hb : Below W.heap.size W w1) : (∀ b o, b < W.heap.size → w1.cell? ⟨b, o, none⟩ = W.cell? ⟨b, o, none⟩) ∧ (∀ b o, b < W.heap.size → w1.frozen? ⟨b, o, none⟩ = W.frozen? ⟨b, o, none⟩) :=
  ⟨fun b o h => hb.cell (p := ⟨b, o, none⟩) h, fun b o h => hb.frozen (p := ⟨b, o, none⟩) h⟩
def errR (e : Int) : Value := .tuple #[.int .i64 0, .agg #[.string ⟨#[]⟩, .int .i64 0], .int .i64 e]
def plE (m : Nat) (a n : Int) : Int := if 0 ≤ a ∧ a ≤ 8 * m ∧ 0 ≤ n ∧ n ≤ 31 then (if 8 * m - a < n then 2 else 0) else 1
def plV (s : ByteArray) (a n : Int) : Int := if plE s.size a n = 0 then (B.fld s.data.toList a.toNat n.toNat : Int) else 0
def plS (s : ByteArray) (a n : Int) : ByteArray := if plE s.size a n = 0 then s else ⟨#[]⟩
def plA (s : ByteArray) (a n : Int) : Int := if plE s.size a n = 0 then a + n else 0
def plR (s : ByteArray) (a n : Int) : Value := .tuple #[.int .i64 (plV s a n), .agg #[.string (plS s a n), .int .i64 (plA s a n)], .int .i64 (plE s.size a n)]
theorem plR_arg {s : ByteArray} {a n : Int} (h : ¬ (0 ≤ a ∧ a ≤ 8 * s.size ∧ 0 ≤ n ∧ n ≤ 31)) : plR s a n = errR 1 := by
  have e : plE s.size a n = 1 := if_neg h
  simp [plR, plV, plS, plA, e, errR]
theorem plR_short {s : ByteArray} {a n : Int} (h : 0 ≤ a ∧ a ≤ 8 * s.size ∧ 0 ≤ n ∧ n ≤ 31) (h2 : 8 * s.size - a < n) : plR s a n = errR 2 := by
  have e : plE s.size a n = 2 := by unfold plE; rw [if_pos h, if_pos h2]
  simp [plR, plV, plS, plA, e, errR]
theorem plE_ok {s : ByteArray} {a n : Nat} (h1 : n ≤ 31) (h2 : a + n ≤ 8 * s.size) : plE s.size a n = 0 := by
  unfold plE; rw [if_pos (by omega), if_neg (by omega)]
theorem plR_ok {s : ByteArray} {a n : Nat} (h1 : n ≤ 31) (h2 : a + n ≤ 8 * s.size) :
    plR s a n = .tuple #[.int .i64 (B.fld s.data.toList a n : Int), .agg #[.string s, .int .i64 ((a + n : Nat) : Int)], .int .i64 0] := by
  have e := plE_ok h1 h2
  simp [plR, plV, plS, plA, e]
theorem plain_bad1 (s : ByteArray) (a n : Int) (w : World) (hs : s.size ≤ 1099511627776) (h : a < 0 ∨ 8 * s.size < a) :
    Calls Try.prog 103 #[.agg #[.string s, .int .i64 a], .int .i64 n] w fun e w' => e = .returned (errR 1) ∧ Below w.heap.size w w' := by
  have H := Lib.hid h
  clear h
  go_enter Try.func103, Try.ntmps103
  go_wp2_with fail
  refine (isright_no s a _ hs H.out).mono ?_
  rintro e w1 ⟨rfl, hb⟩
  obtain ⟨hc, hf⟩ := bcell hb
  have hz : w.heap.size + 1 < w1.heap.size := by have := hb.size; simp at this; omega
  have H1 := Lib.hid (bq_trans (bq_alloc (bq_alloc (bq_refl w) _) _) hb)
  clear hb
  go_wp2_with fail
  exact bodyPost_ret (v := errR 1) (by simp [results, Try.results103, go_sem, hc, errR]) rfl ⟨rfl, bq_set (bq_set H1.out _ (by simp) _) _ (by simp) _⟩
theorem plain_bad2 (s : ByteArray) (a n : Int) (w : World) (hs : s.size ≤ 1099511627776) (h0 : 0 ≤ a) (h1 : a ≤ 8 * s.size) (h : n < 0 ∨ 31 < n) :
    Calls Try.prog 103 #[.agg #[.string s, .int .i64 a], .int .i64 n] w fun e w' => e = .returned (errR 1) ∧ Below w.heap.size w w' := by
  have H := Lib.hid h
  clear h
  go_enter Try.func103, Try.ntmps103
  go_wp2_with fail
  refine (isright_yes s a _ hs h0 h1).mono ?_
  rintro e w1 ⟨rfl, hb⟩
  obtain ⟨hc, hf⟩ := bcell hb
  have hz : w.heap.size + 1 < w1.heap.size := by have := hb.size; simp at this; omega
  have H1 := Lib.hid (bq_trans (bq_alloc (bq_alloc (bq_refl w) _) _) hb)
  clear hb
  go_wp2_with fail
  refine (isfield_no n _ H.out).mono ?_
  rintro e w' ⟨rfl, rfl⟩
  go_wp2_with fail
  exact bodyPost_ret (v := errR 1) (by simp [results, Try.results103, go_sem, hc, errR]) rfl ⟨rfl, bq_set (bq_set H1.out _ (by simp) _) _ (by simp) _⟩
theorem plain_short (s : ByteArray) (a n : Int) (w : World) (hs : s.size ≤ 1099511627776) (h0 : 0 ≤ a) (h1 : a ≤ 8 * s.size) (h2 : 0 ≤ n) (h3 : n ≤ 31) (h4 : 8 * s.size - a < n) :
    Calls Try.prog 103 #[.agg #[.string s, .int .i64 a], .int .i64 n] w fun e w' => e = .returned (errR 2) ∧ Below w.heap.size w w' := by
  go_enter Try.func103, Try.ntmps103
  go_wp2_with fail
  refine (isright_yes s a _ hs h0 h1).mono ?_
  rintro e w1 ⟨rfl, hb⟩
  obtain ⟨hc, hf⟩ := bcell hb
  have hz : w.heap.size + 1 < w1.heap.size := by have := hb.size; simp at this; omega
  have H1 := Lib.hid (bq_trans (bq_alloc (bq_alloc (bq_refl w) _) _) hb)
  clear hb
  go_wp2_with fail
  refine (isfield_yes n _ h2 h3).mono ?_
  rintro e w' ⟨rfl, rfl⟩
  go_wp2_with fail
  exact bodyPost_ret (v := errR 2) (by simp [results, Try.results103, go_sem, hc, errR]) rfl ⟨rfl, bq_set (bq_set H1.out _ (by simp) _) _ (by simp) _⟩
theorem plain_post {Q : Ending → World → Prop} {a : Act} {W : World} {g : Nat} {x y u v : Value} (hbox : Box W g x y) (h4 : a.tmps[4]?.getD undef = u) (h5 : a.tmps[5]?.getD undef = .pointer (some ⟨g, 0, none⟩)) (h6 : a.tmps[6]?.getD undef = v)
    (hd : a.defers = []) (hQ : Q (.returned (.tuple #[u, .agg #[x, y], v])) W) : bodyPost Try.prog Try.f103 Q Exit.ret a W :=
  bodyPost_ret (v := .tuple #[u, .agg #[x, y], v]) (by simp [results, Try.results103, go_sem, h4, h5, h6, hbox.1, hbox.2.1]) hd hQ
attribute [local go_sem ↓] Go.wp_at_zero Go.wp_at_succ
set_option maxHeartbeats 1000000 in
theorem plain_ok (s : ByteArray) (a n : Nat) (w : World) (hs : s.size ≤ 1099511627776) (h3 : n ≤ 31) (h4 : a + n ≤ 8 * s.size) :
    Calls Try.prog 103 #[.agg #[.string s, .int .i64 a], .int .i64 n] w fun e w' => e = .returned (.tuple #[.int .i64 (B.fld s.data.toList a n : Int), .agg #[.string s, .int .i64 ((a + n : Nat) : Int)], .int .i64 0]) ∧ Below w.heap.size w w' := by
  have HN := fun w => number_any s a (a + n) w hs (by omega) (by omega) (by omega)
  rw [show a + n - a = n by omega, show ((a + n : Nat) : Int) = (a : Int) + (n : Int) by omega] at HN
  have HN2 := Lib.hid HN
  clear HN
  rw [show ((a + n : Nat) : Int) = (a : Int) + (n : Int) by omega]
  go_enter Try.func103, Try.ntmps103
  go_wp2_with fail
  refine (isright_yes s a _ hs (by omega) (by omega)).mono ?_
  rintro e w1 ⟨rfl, hb⟩
  obtain ⟨⟨c0, c1, _, _, _⟩, ⟨d0, d1, g0, g1, hz⟩, H⟩ := box2_kept hb
  have H1 := Lib.hid H
  clear hb H
  go_wp2_with fail
  refine (isfield_yes n _ (by omega) (by omega)).mono ?_
  rintro e w' ⟨rfl, rfl⟩
  go_wp2_with fail
  have ne1 : ¬ w.heap.size + 1 = w1.heap.size := by omega
  have ne2 : ¬ w1.heap.size = w.heap.size + 1 := by omega
  have ne3 : ¬ w.heap.size = w1.heap.size := by omega
  go_region_held3 (fun w' => w'.cell? ⟨w.heap.size, 0, none⟩ = some (.string s) ∧ w'.cell? ⟨w.heap.size, 1, none⟩ = some (.int .i64 a) ∧ w'.cell? ⟨w1.heap.size, 0, none⟩ = some (.string s) ∧ w'.cell? ⟨w1.heap.size, 1, none⟩ = some (.int .i64 ((a : Int) + (n : Int)))) (go_keep) (first | (go_at_call 109; refine (HN2.out _).mono ?_; rintro e w2 ⟨rfl, m, rfl⟩))
  all_goals go_wp2
  refine plain_post (((((Box.alloc (⟨d0, d1, g0, g1, hz⟩) _).drewN _).set0 _).set1 _)) rfl rfl rfl rfl ⟨rfl, bq_set (bq_set (bq_drewN (bq_alloc H1.out _) _) _ (by simp) _) _ (by simp) _⟩
theorem plain_any (s : ByteArray) (a n : Int) (w : World) (hs : s.size ≤ 1099511627776) :
    Calls Try.prog 103 #[.agg #[.string s, .int .i64 a], .int .i64 n] w fun e w' => e = .returned (plR s a n) ∧ Below w.heap.size w w' := by
  by_cases h : 0 ≤ a ∧ a ≤ 8 * s.size ∧ 0 ≤ n ∧ n ≤ 31
  · by_cases h2 : 8 * s.size - a < n
    · rw [plR_short h h2]; exact plain_short s a n w hs h.1 h.2.1 h.2.2.1 h.2.2.2 h2
    · obtain ⟨A, rfl⟩ := Int.eq_ofNat_of_zero_le h.1
      obtain ⟨N, rfl⟩ := Int.eq_ofNat_of_zero_le h.2.2.1
      rw [plR_ok (by omega) (by omega)]; exact plain_ok s A N w hs (by omega) (by omega)
  · rw [plR_arg h]
    by_cases h3 : 0 ≤ a ∧ a ≤ 8 * s.size
    · exact plain_bad2 s a n w hs h3.1 h3.2 (by omega)
    · exact plain_bad1 s a n w hs (by omega)
end Go.Proofs.Ythlnjipefeglpaa
namespace Go.Proofs.Ythlnjipefeglpaa.B
set_option linter.unusedVariables false
def putN (m f n : Nat) : Nat := (8 * m - f + n + 7) / 8
def putF (m f n : Nat) : Nat := 8 * putN m f n - (8 * m - f + n)
def putX (l : List UInt8) (f v n : Nat) : Nat := (bv l / P2 f * P2 n + v) * P2 (putF l.length f n)
def putL (l : List UInt8) (f v n : Nat) : List UInt8 := enc (putN l.length f n) (putX l f v n)
def Snd (l : List UInt8) (f : Nat) : Prop := f ≤ 7 ∧ f ≤ 8 * l.length ∧ bv l % P2 f = 0
theorem putN_eq (m f n : Nat) : 8 * putN m f n = (8 * m - f + n) + putF m f n := by unfold putF putN; omega
theorem putF_le (m f n : Nat) : putF m f n ≤ 7 := by unfold putF putN; omega
theorem putF_zero (m n : Nat) : putF m 0 n = 8 * ((n + 7) / 8) - n := by unfold putF putN; omega
theorem putN_zero (m n : Nat) : putN m 0 n = m + (n + 7) / 8 := by unfold putN; omega
theorem head_lt (l : List UInt8) (f : Nat) (h : f ≤ 8 * l.length) : bv l / P2 f < P2 (8 * l.length - f) := by
  apply div_lt
  rw [show f + (8 * l.length - f) = 8 * l.length by omega]
  exact bv_lt l
theorem join_lt {x y a n : Nat} (hx : x < P2 a) (hy : y < P2 n) : x * P2 n + y < P2 (a + n) := by
  rw [P2_add]
  have h : (x + 1) * P2 n ≤ P2 a * P2 n := Nat.mul_le_mul_right _ hx
  rw [Nat.add_mul] at h
  omega
theorem shift_lt {x a g : Nat} (hx : x < P2 a) : x * P2 g < P2 (a + g) := by
  have := join_lt (n := g) hx (P2_pos g)
  omega
theorem putX_lt (l : List UInt8) (f v n : Nat) (hf : f ≤ 8 * l.length) (hv : v < P2 n) : putX l f v n < P2 (8 * putN l.length f n) := by
  rw [putN_eq]
  exact shift_lt (join_lt (head_lt l f hf) hv)
theorem putL_len (l : List UInt8) (f v n : Nat) : (putL l f v n).length = putN l.length f n := enc_len _ _
theorem putL_bv (l : List UInt8) (f v n : Nat) (hf : f ≤ 8 * l.length) (hv : v < P2 n) : bv (putL l f v n) = putX l f v n := bv_enc _ _ (putX_lt l f v n hf hv)
theorem putL_head (l : List UInt8) (f v n : Nat) (hf : f ≤ 8 * l.length) (hv : v < P2 n) : bv (putL l f v n) / P2 (putF l.length f n) = bv l / P2 f * P2 n + v := by
  rw [putL_bv l f v n hf hv, putX, Nat.mul_div_cancel _ (P2_pos _)]
theorem putL_snd (l : List UInt8) (f v n : Nat) (hf : f ≤ 8 * l.length) (hv : v < P2 n) : Snd (putL l f v n) (putF l.length f n) := by
  refine ⟨putF_le _ _ _, ?_, ?_⟩
  · rw [putL_len, putN_eq]; omega
  · rw [putL_bv l f v n hf hv, putX, Nat.mul_mod_left]
theorem putF_comp (m f k n : Nat) (hf : f ≤ 8 * m) : putF (putN m f k) (putF m f k) n = putF m f (k + n) := by unfold putF putN; omega
theorem putN_comp (m f k n : Nat) (hf : f ≤ 8 * m) : putN (putN m f k) (putF m f k) n = putN m f (k + n) := by unfold putF putN; omega
theorem putL_comp (l : List UInt8) (f u k v n : Nat) (hf : f ≤ 8 * l.length) (hu : u < P2 k) (hv : v < P2 n) :
    putL (putL l f u k) (putF l.length f k) v n = putL l f (u * P2 n + v) (k + n) := by
  have h := putL_head l f u k hf hu
  unfold putL putX at h ⊢
  rw [enc_len, h, putN_comp _ _ _ _ hf, putF_comp _ _ _ _ hf]
  congr 2
  rw [P2_add, Nat.add_mul, Nat.mul_assoc, Nat.add_assoc]
theorem putL_nil (l : List UInt8) (f : Nat) (h : Snd l f) : putL l f 0 0 = l := by
  obtain ⟨h1, h2, h3⟩ := h
  have e1 : putN l.length f 0 = l.length := by unfold putN; omega
  have e2 : putF l.length f 0 = f := by unfold putF; rw [e1]; omega
  unfold putL putX
  rw [e1, e2, P2_zero, Nat.mul_one, Nat.add_zero, Nat.mul_comm, Nat.mul_div_cancel' (Nat.dvd_of_mod_eq_zero h3)]
  exact enc_bv l
theorem putF_nil (m f : Nat) (h1 : f ≤ 7) (h2 : f ≤ 8 * m) : putF m f 0 = f := by unfold putF putN; omega
theorem putL_whole (l : List UInt8) (v n : Nat) (hv : v < P2 n) : putL l 0 v n = l ++ enc ((n + 7) / 8) (v * P2 (putF l.length 0 n)) := by
  have e := putN_zero l.length n
  have hb : v * P2 (putF l.length 0 n) < P2 (8 * ((n + 7) / 8)) := by
    rw [show 8 * ((n + 7) / 8) = n + putF l.length 0 n by rw [putF_zero]; omega]
    exact shift_lt hv
  unfold putL putX
  rw [e, P2_zero, Nat.div_one, Nat.add_mul, Nat.mul_assoc, ← P2_add, show n + putF l.length 0 n = 8 * ((n + 7) / 8) by rw [putF_zero]; omega, enc_append _ _ _ _ hb, enc_bv]
theorem putL_part (l : List UInt8) (c : UInt8) (f v n : Nat) (hf0 : 1 ≤ f) (hf : f ≤ 7) (hv : v < P2 n) :
    putL (l ++ [c]) f v n = l ++ enc ((n + (8 - f) + 7) / 8) ((c.toNat / P2 f * P2 n + v) * P2 (putF (l.length + 1) f n)) := by
  have hc := c.toNat_lt
  have eN : putN (l.length + 1) f n = l.length + (n + (8 - f) + 7) / 8 := by unfold putN; omega
  have eF : (8 - f) + n + putF (l.length + 1) f n = 8 * ((n + (8 - f) + 7) / 8) := by unfold putF; rw [eN]; omega
  have hq : c.toNat / P2 f < P2 (8 - f) := by
    apply div_lt
    rw [show f + (8 - f) = 8 by omega, P2_8]; exact hc
  have hb : (c.toNat / P2 f * P2 n + v) * P2 (putF (l.length + 1) f n) < P2 (8 * ((n + (8 - f) + 7) / 8)) := by
    rw [← eF]; exact shift_lt (join_lt hq hv)
  have e256 : 256 = P2 f * P2 (8 - f) := by rw [← P2_add, show f + (8 - f) = 8 by omega, P2_8]
  have eh : (256 * bv l + c.toNat) / P2 f = bv l * P2 (8 - f) + c.toNat / P2 f := by
    rw [e256, Nat.mul_assoc, Nat.mul_add_div (P2_pos f), Nat.mul_comm]
  unfold putL putX
  rw [List.length_append, List.length_singleton, eN, bv_snoc, eh]
  rw [show ((bv l * P2 (8 - f) + c.toNat / P2 f) * P2 n + v) * P2 (putF (l.length + 1) f n) = bv l * P2 (8 * ((n + (8 - f) + 7) / 8)) + (c.toNat / P2 f * P2 n + v) * P2 (putF (l.length + 1) f n) by
    rw [← eF, P2_add, P2_add, Nat.add_mul, Nat.add_mul, Nat.add_mul]
    simp only [Nat.mul_assoc, Nat.add_assoc, Nat.add_mul]]
  rw [enc_append _ _ _ _ hb, enc_bv]
theorem enc_one (x : Nat) (h : x < 256) : enc 1 x = [UInt8.ofNat x] := by
  show [] ++ [UInt8.ofNat (x % 256)] = _
  rw [Nat.mod_eq_of_lt h]; rfl
theorem putL_bit0 (l : List UInt8) (b : Nat) (hb : b < 2) : putL l 0 b 1 = l ++ [UInt8.ofNat (128 * b)] ∧ putF l.length 0 1 = 7 := by
  have e : putF l.length 0 1 = 7 := by rw [putF_zero]
  refine ⟨?_, e⟩
  rw [putL_whole l b 1 hb, e]
  show l ++ enc 1 (b * 128) = _
  rw [enc_one _ (by omega), Nat.mul_comm]
theorem putL_bitf (l : List UInt8) (c : UInt8) (f b : Nat) (hb : b < 2) (hf0 : 1 ≤ f) (hf : f ≤ 7) (hz : c.toNat % P2 f = 0) :
    putL (l ++ [c]) f b 1 = l ++ [UInt8.ofNat (c.toNat + b * P2 (f - 1))] ∧ putF (l.length + 1) f 1 = f - 1 ∧ c.toNat + b * P2 (f - 1) < 256 := by
  have eF : putF (l.length + 1) f 1 = f - 1 := by unfold putF putN; omega
  have hP : P2 f = 2 * P2 (f - 1) := by rw [← P2_succ, show f - 1 + 1 = f by omega]
  have hd := Nat.div_add_mod c.toNat (P2 f)
  have ex : (c.toNat / P2 f * P2 1 + b) * P2 (f - 1) = c.toNat + b * P2 (f - 1) := by
    show (c.toNat / P2 f * 2 + b) * P2 (f - 1) = _
    rw [Nat.add_mul, Nat.mul_assoc, ← hP, Nat.mul_comm (c.toNat / P2 f)]
    omega
  have hlt : c.toNat + b * P2 (f - 1) < 256 := by
    have hq : c.toNat / P2 f < P2 (8 - f) := by
      apply div_lt
      rw [show f + (8 - f) = 8 by omega, P2_8]; exact c.toNat_lt
    have h2 := shift_lt (g := f - 1) (join_lt (n := 1) hq (show b < P2 1 from hb))
    rw [ex, show 8 - f + 1 + (f - 1) = 8 by omega, P2_8] at h2
    exact h2
  refine ⟨?_, eF, hlt⟩
  rw [putL_part l c f b 1 hf0 hf hb, eF, ex, show (1 + (8 - f) + 7) / 8 = 1 by omega, enc_one _ hlt]
theorem last_mod (l : List UInt8) (c : UInt8) (f : Nat) (hf : f ≤ 8) : bv (l ++ [c]) % P2 f = c.toNat % P2 f := by
  rw [bv_snoc, show 256 = P2 f * P2 (8 - f) by rw [← P2_add, show f + (8 - f) = 8 by omega, P2_8], Nat.mul_assoc, Nat.mul_add_mod]
theorem enc_get (m x i : Nat) (h : i < m) (h' : i < (enc m x).length) : (enc m x)[i].toNat = x / P2 (8 * (m - 1 - i)) % 256 := by
  induction m generalizing x with
  | zero => omega
  | succ m ih =>
    have hl := enc_len m (x / 256)
    by_cases e : i = m
    · subst e
      have : (enc (i + 1) x)[i] = UInt8.ofNat (x % 256) := by
        simp only [enc]
        rw [List.getElem_append_right (by omega)]
        simp [hl]
      rw [this, ofNat_toNat _ (Nat.mod_lt _ (by omega)), show i + 1 - 1 - i = 0 by omega, Nat.mul_zero, P2_zero, Nat.div_one]
    · have : (enc (m + 1) x)[i] = (enc m (x / 256))[i]'(by omega) := by
        simp only [enc]
        rw [List.getElem_append_left (by omega)]
      rw [this, ih _ (by omega) (by omega), Nat.div_div_eq_div_mul, ← P2_byte, show m - 1 - i + 1 = m + 1 - 1 - i by omega]
def le : Nat → Nat → List UInt8
  | 0, _ => []
  | n + 1, v => UInt8.ofNat (v % 256) :: le n (v / 256)
theorem le_len (n v : Nat) : (le n v).length = n := by
  induction n generalizing v with
  | zero => rfl
  | succ n ih => simp [le, ih]
theorem le_get (n v i : Nat) (h : i < n) (h' : i < (le n v).length) : (le n v)[i].toNat = v / P2 (8 * i) % 256 := by
  induction n generalizing v i with
  | zero => omega
  | succ n ih =>
    cases i with
    | zero => show (UInt8.ofNat (v % 256)).toNat = _; rw [ofNat_toNat _ (Nat.mod_lt _ (by omega)), Nat.mul_zero, P2_zero, Nat.div_one]
    | succ i =>
      have hi : i < (le n (v / 256)).length := by rw [le_len]; omega
      show ((le n (v / 256))[i]'hi).toNat = _
      rw [ih _ _ (by omega) hi, Nat.div_div_eq_div_mul, ← P2_byte]
theorem lv_le (n v : Nat) (h : v < P2 (8 * n)) : lv (le n v) = v := by
  induction n generalizing v with
  | zero => rw [Nat.mul_zero, P2_zero] at h; simp [le, lv]; omega
  | succ n ih =>
    rw [P2_byte] at h
    rw [le, lv, ih _ (by omega), ofNat_toNat _ (Nat.mod_lt _ (by omega))]
    omega
end Go.Proofs.Ythlnjipefeglpaa.B
namespace Go.Proofs.Ythlnjipefeglpaa
open Go.RowKit
set_option linter.unusedVariables false
def bs (l : List UInt8) : ByteArray := ⟨l.toArray⟩
theorem bs_data (l : List UInt8) : (bs l).data.toList = l := rfl
theorem bs_of (s : ByteArray) : bs s.data.toList = s := rfl
theorem bs_size (l : List UInt8) : (bs l).size = l.length := rfl
theorem bs_append (a b : List UInt8) : bs a ++ bs b = bs (a ++ b) := by
  apply ByteArray.ext
  rw [ByteArray.data_append]
  simp [bs]
def BRow (w : World) (g : Nat) (l : List UInt8) : Prop :=
  g < w.heap.size ∧ ∀ i (h : i < l.length), w.cell? ⟨g, i, none⟩ = some (.int .u8 (l[i].toNat : Int)) ∧ w.frozen? ⟨g, i, none⟩ = false
section
variable {w w' : World} {g : Nat} {l : List UInt8}
theorem BRow.set (h : BRow w g l) {i : Nat} (hi : i < l.length) (x : UInt8) : BRow (w.setCell ⟨g, i, none⟩ (.int .u8 (x.toNat : Int))) g (l.set i x) := by
  refine ⟨by simpa [World.setCell] using h.1, fun j hj => ?_⟩
  have hj' : j < l.length := by rw [List.length_set] at hj; exact hj
  refine ⟨?_, by rw [World.frozen?_setCell]; exact (h.2 j hj').2⟩
  by_cases e : j = i
  · subst e
    rw [World.cell?_setCell_same _ _ _ (h.2 j hj').1, List.getElem_set_self]
  · rw [World.cell?_setCell_other _ _ _ _ (by intro k; injection k; omega), (h.2 j hj').1, List.getElem_set_ne (by omega)]
theorem BRow.str (h : BRow w g l) (c : Nat) : (convert 96 9 (.slice (some ⟨g, 0, none⟩) l.length c)).run Try.prog w = .ok (.string (bs l)) w :=
  run_convert_bytes_back (P := Try.prog) w 96 9 5 ⟨g, 0, none⟩ c l Try.underlying96 Try.underlying5 Try.underlying9 (fun j hj => by rw [← (h.2 j hj).1]; congr 1; unfold Addr.add; split <;> simp_all)
end
theorem byte_info : (Try.prog.info? 5).map (fun i => (i.zero, i.size, i.bytes)) = some (some (.int .u8 0), 1, 1) := by kernel_rfl
theorem brow_made (w : World) (n : Nat) : BRow (w.alloc (.cells (madeCells #[.int .u8 0] n) 5)) w.heap.size (List.replicate n 0) := by
  refine ⟨by simp, fun i hi => ?_⟩
  have hi' : i < n := by rw [List.length_replicate] at hi; exact hi
  refine ⟨?_, World.frozen?_alloc_new ..⟩
  rw [World.cell?_alloc_new, ← Array.getElem?_toList, toList_madeCells_one, List.getElem?_replicate, if_pos hi', List.getElem_replicate]
  rfl
theorem made_bytes (x : Int) (n : Nat) (hx : x = n) (hn : n ≤ 1000000) (w : World) : (Instr.makeSlice 96 (.int .i64 x) (.int .i64 x)).run Try.prog w = .ok (.slice (some ⟨w.heap.size, 0, none⟩) n n) (w.alloc (.cells (madeCells #[.int .u8 0] n) 5)) := by
  rw [hx]
  exact run_make_row' (P := Try.prog) 96 5 (.int .u8 0) 1 Try.underlying96 byte_info rfl .i64 .i64 n (by omega) (by omega) w
def sndB (s : ByteArray) (f : Int) : Bool := decide (f = 0) || (decide (0 < f) && decide (f ≤ 7) && decide (0 < s.size) && decide (B.bv s.data.toList % B.P2 f.toNat = 0))
set_option maxHeartbeats 400000 in
theorem sound_zero (s : ByteArray) (w : World) : Calls Try.prog 107 #[.agg #[.string s, .int .i64 0]] w fun e w' => e = .returned (.bool true) ∧ Below w.heap.size w w' := by
  go_enter Try.func107, Try.ntmps107
  go_wp2
  go_ret
  exact ⟨rfl, bq_alloc (bq_refl w) _⟩
theorem sound_out (s : ByteArray) (f : Int) (w : World) (h : f < 0 ∨ 7 < f) : Calls Try.prog 107 #[.agg #[.string s, .int .i64 f]] w fun e w' => e = .returned (.bool false) ∧ Below w.heap.size w w' := by
  have h0 : (f == 0) = false := by rw [beq_eq_false_iff_ne]; omega
  rcases h with h | h
  all_goals
    go_enter Try.func107, Try.ntmps107
    go_wp2
    go_ret
    exact ⟨rfl, bq_alloc (bq_refl w) _⟩
theorem sound_empty (s : ByteArray) (f : Int) (w : World) (h0 : 0 < f) (h1 : f ≤ 7) (hs : s.size = 0) : Calls Try.prog 107 #[.agg #[.string s, .int .i64 f]] w fun e w' => e = .returned (.bool false) ∧ Below w.heap.size w w' := by
  have h0 : (f == 0) = false := by rw [beq_eq_false_iff_ne]; omega
  obtain rfl : s = ⟨#[]⟩ := by
    apply ByteArray.ext
    exact Array.eq_empty_of_size_eq_zero hs
  clear hs
  go_enter Try.func107, Try.ntmps107
  go_wp2
  go_ret
  exact ⟨rfl, bq_alloc (bq_refl w) _⟩
theorem and_last (c : UInt8) (f : Nat) (hf : f ≤ 7) : (bits .and .u8 (c.toNat : Int) ((2 ^ f - 1) % 256) == 0) = decide (c.toNat % B.P2 f = 0) := by
  have h1 := B.P2_pos f
  have h2 : B.P2 f ≤ 128 := B.P2_le (b := 7) hf
  have hc := c.toNat_lt
  rw [P2_cast, show ((B.P2 f : Int) - 1) % 256 = ((B.P2 f - 1 : Nat) : Int) by omega, u8_and_nat _ _ hc (by omega)]
  have e : c.toNat &&& (B.P2 f - 1) = c.toNat % B.P2 f := Nat.and_two_pow_sub_one_eq_mod _ _
  rw [e, Bool.eq_iff_iff, beq_iff_eq, decide_eq_true_iff]
  omega
theorem sound_last (s : ByteArray) (f m : Nat) (w : World) (h0 : 0 < f) (h1 : f ≤ 7) (b3 : m < s.size) (hm : s.size ≤ m + 1) (hs : s.size ≤ 1099511627776) : Calls Try.prog 107 #[.agg #[.string s, .int .i64 f]] w fun e w' => e = .returned (.bool (decide (s[m].toNat % B.P2 f = 0))) ∧ Below w.heap.size w w' := by
  have e0 : ((f : Int) == 0) = false := by rw [beq_eq_false_iff_ne]; omega
  have e1 : s.toList.isEmpty = false := by
    rw [ByteArray.toList_eq, List.isEmpty_eq_false_iff]
    intro h
    have h2 := bytes_length s
    rw [h] at h2
    simp only [List.length_nil] at h2
    omega
  have HA := Lib.hid (and_last s[m] f h1)
  have wr : IntKind.i64.wrap ((s.size : Int) - 1) = (m : Int) := by rw [i64_wrap _ (by omega) (by omega)]; omega
  have b2 : (m : Int) < (s.size : Int) := by omega
  go_enter Try.func107, Try.ntmps107
  go_wp2
  go_quiet (fail)
  go_wp2
  go_ret
  exact ⟨ret_bool HA.out, bq_drewN (bq_alloc (bq_refl w) _) _⟩
end Go.Proofs.Ythlnjipefeglpaa
