import Derived.Test.YthlnjipefeglpaaZS3
import Derived.Test.YthlnjipefeglpaaZS2
namespace Go.Proofs.Ythlnjipefeglpaa
open Go.RowKit
set_option linter.unusedVariables false
def alA (m : Nat) (a : Int) : Int := if 0 ≤ a ∧ a ≤ 8 * m then (a + 7) / 8 * 8 else a
theorem align_post {Q : Ending → World → Prop} {a : Act} {W : World} {g : Nat} {x y : Value} (hbox : Box W g x y) (h : a.tmps[2]?.getD undef = .pointer (some ⟨g, 0, none⟩))
    (hd : a.defers = []) (hQ : Q (.returned (.agg #[x, y])) W) : bodyPost Try.prog Try.f90 Q Exit.ret a W :=
  bodyPost_ret (v := .agg #[x, y]) (by simp [results, Try.results90, go_sem, h, hbox.1, hbox.2.1]) hd hQ
theorem align_yes (s : ByteArray) (a : Int) (w : World) (hs : s.size ≤ 1099511627776) (h0 : 0 ≤ a) (h1 : a ≤ 8 * s.size) :
    Calls Try.prog 90 #[.agg #[.string s, .int .i64 a]] w fun e w' => e = .returned (.agg #[.string s, .int .i64 ((a + 7) / 8 * 8)]) ∧ Below w.heap.size w w' := by
  go_enter Try.func90, Try.ntmps90
  go_wp2_with fail
  refine (isright_yes s a _ hs h0 h1).mono ?_
  rintro e w1 ⟨rfl, hb⟩
  obtain ⟨⟨c0, c1, f0, f1, _⟩, ⟨d0, d1, g0, g1, hz⟩, H⟩ := box2_kept hb
  have H1 := Lib.hid H
  clear hb H
  go_wp2
  exact align_post ((((Box.far ⟨d0, d1, g0, g1, hz⟩ (by simp) _).set0 _).set1 _)) rfl rfl ⟨rfl, bq_set (bq_set (bq_set H1.out _ (by simp) _) _ (by simp) _) _ (by simp) _⟩
theorem align_no (s : ByteArray) (a : Int) (w : World) (hs : s.size ≤ 1099511627776) (h : a < 0 ∨ 8 * s.size < a) :
    Calls Try.prog 90 #[.agg #[.string s, .int .i64 a]] w fun e w' => e = .returned (.agg #[.string s, .int .i64 a]) ∧ Below w.heap.size w w' := by
  have H := Lib.hid h
  clear h
  go_enter Try.func90, Try.ntmps90
  go_wp2_with fail
  refine (isright_no s a _ hs H.out).mono ?_
  rintro e w1 ⟨rfl, hb⟩
  obtain ⟨⟨c0, c1, f0, f1, _⟩, ⟨d0, d1, g0, g1, hz⟩, H⟩ := box2_kept hb
  have H1 := Lib.hid H
  clear hb H
  go_wp2
  exact align_post (((Box.set0 ⟨d0, d1, g0, g1, hz⟩ _).set1 _)) rfl rfl ⟨rfl, bq_set (bq_set H1.out _ (by simp) _) _ (by simp) _⟩
theorem align_any (s : ByteArray) (a : Int) (w : World) (hs : s.size ≤ 1099511627776) :
    Calls Try.prog 90 #[.agg #[.string s, .int .i64 a]] w fun e w' => e = .returned (.agg #[.string s, .int .i64 (alA s.size a)]) ∧ Below w.heap.size w w' := by
  unfold alA
  by_cases h : 0 ≤ a ∧ a ≤ 8 * s.size
  · rw [if_pos h]; exact align_yes s a w hs h.1 h.2
  · rw [if_neg h]; exact align_no s a w hs (by omega)
def cellInt (w : World) (g o : Nat) : Int := match w.cell? ⟨g, o, none⟩ with | some (.int _ n) => n | _ => 0
def alM (w : World) (g : Nat) : Nat := ((8 - cellInt w g 1 % 8) % 8).toNat
def AlRel (s : ByteArray) (a : Int) (w wr : World) : Prop :=
  ∃ x : Int, Box wr w.heap.size (.string s) (.int .i64 x) ∧ Box wr (w.heap.size + 1) (.string ⟨#[]⟩) (.int .i64 0) ∧ Below w.heap.size w wr ∧ alA s.size x = alA s.size a
end Go.Proofs.Ythlnjipefeglpaa
namespace Go.Proofs.Ythlnjipefeglpaa
open Go.RowKit
set_option linter.unusedVariables false
def errB (e : Int) : Value := .tuple #[.string ⟨#[]⟩, .agg #[.string ⟨#[]⟩, .int .i64 0], .int .i64 e]
def byE (m : Nat) (a n : Int) : Int := if 0 ≤ a ∧ a ≤ 8 * m ∧ 0 ≤ n then (if (m : Int) - (a + 7) / 8 < n then 2 else 0) else 1
def byB (s : ByteArray) (a n : Int) : ByteArray := if byE s.size a n = 0 then s.extract ((a + 7) / 8).toNat (((a + 7) / 8).toNat + n.toNat) else ⟨#[]⟩
def byS (s : ByteArray) (a n : Int) : ByteArray := if byE s.size a n = 0 then s else ⟨#[]⟩
def byA (s : ByteArray) (a n : Int) : Int := if byE s.size a n = 0 then 8 * ((a + 7) / 8 + n) else 0
def byR (s : ByteArray) (a n : Int) : Value := .tuple #[.string (byB s a n), .agg #[.string (byS s a n), .int .i64 (byA s a n)], .int .i64 (byE s.size a n)]
theorem byR_arg {s : ByteArray} {a n : Int} (h : ¬ (0 ≤ a ∧ a ≤ 8 * s.size ∧ 0 ≤ n)) : byR s a n = errB 1 := by
  have e : byE s.size a n = 1 := if_neg h
  simp [byR, byB, byS, byA, e, errB]
theorem byR_short {s : ByteArray} {a n : Int} (h : 0 ≤ a ∧ a ≤ 8 * s.size ∧ 0 ≤ n) (h2 : (s.size : Int) - (a + 7) / 8 < n) : byR s a n = errB 2 := by
  have e : byE s.size a n = 2 := by unfold byE; rw [if_pos h, if_pos h2]
  simp [byR, byB, byS, byA, e, errB]
theorem byR_ok {s : ByteArray} {a : Int} {n k : Nat} (h : 0 ≤ a ∧ a ≤ 8 * s.size ∧ 0 ≤ (n : Int)) (hk : (k : Int) = (a + 7) / 8) (h2 : ¬ (s.size : Int) - (a + 7) / 8 < n) :
    byR s a n = .tuple #[.string (s.extract k (k + n)), .agg #[.string s, .int .i64 (8 * ((k : Int) + (n : Int)))], .int .i64 0] := by
  have e : byE s.size a n = 0 := by unfold byE; rw [if_pos h, if_neg h2]
  simp [byR, byB, byS, byA, e, ← hk]
theorem bytes_post {Q : Ending → World → Prop} {a : Act} {W : World} {g : Nat} {x y u v : Value} (hbox : Box W g x y) (h4 : a.tmps[4]?.getD undef = u) (h5 : a.tmps[5]?.getD undef = .pointer (some ⟨g, 0, none⟩)) (h6 : a.tmps[6]?.getD undef = v)
    (hd : a.defers = []) (hQ : Q (.returned (.tuple #[u, .agg #[x, y], v])) W) : bodyPost Try.prog Try.f76 Q Exit.ret a W :=
  bodyPost_ret (v := .tuple #[u, .agg #[x, y], v]) (by simp [results, Try.results76, go_sem, h4, h5, h6, hbox.1, hbox.2.1]) hd hQ
theorem bytes_bad1 (s : ByteArray) (a n : Int) (w : World) (hs : s.size ≤ 1099511627776) (h : a < 0 ∨ 8 * s.size < a) :
    Calls Try.prog 76 #[.agg #[.string s, .int .i64 a], .int .i64 n] w fun e w' => e = .returned (errB 1) ∧ Below w.heap.size w w' := by
  have H := Lib.hid h
  clear h
  go_enter Try.func76, Try.ntmps76
  go_wp2_with fail
  refine (isright_no s a _ hs H.out).mono ?_
  rintro e w1 ⟨rfl, hb⟩
  obtain ⟨⟨c0, c1, f0, f1, _⟩, ⟨d0, d1, g0, g1, hz⟩, H⟩ := box2_kept hb
  have H1 := Lib.hid H
  clear hb H
  go_wp2_with fail
  exact bytes_post (((Box.set0 ⟨d0, d1, g0, g1, hz⟩ _).set1 _)) rfl rfl rfl rfl ⟨rfl, bq_set (bq_set H1.out _ (by simp) _) _ (by simp) _⟩
theorem bytes_bad2 (s : ByteArray) (a n : Int) (w : World) (hs : s.size ≤ 1099511627776) (h0 : 0 ≤ a) (h1 : a ≤ 8 * s.size) (h : n < 0) :
    Calls Try.prog 76 #[.agg #[.string s, .int .i64 a], .int .i64 n] w fun e w' => e = .returned (errB 1) ∧ Below w.heap.size w w' := by
  go_enter Try.func76, Try.ntmps76
  go_wp2_with fail
  refine (isright_yes s a _ hs h0 h1).mono ?_
  rintro e w1 ⟨rfl, hb⟩
  obtain ⟨⟨c0, c1, f0, f1, _⟩, ⟨d0, d1, g0, g1, hz⟩, H⟩ := box2_kept hb
  have H1 := Lib.hid H
  clear hb H
  go_wp2_with fail
  exact bytes_post (((Box.set0 ⟨d0, d1, g0, g1, hz⟩ _).set1 _)) rfl rfl rfl rfl ⟨rfl, bq_set (bq_set H1.out _ (by simp) _) _ (by simp) _⟩
theorem bytes_short (s : ByteArray) (a n : Int) (k : Nat) (w : World) (hs : s.size ≤ 1099511627776) (h0 : 0 ≤ a) (h1 : a ≤ 8 * s.size) (hn : 0 ≤ n) (hk : k ≤ s.size) (h : (s.size : Int) - k < n)
    (HA : Hid (∀ w, Calls Try.prog 90 #[.agg #[.string s, .int .i64 a]] w fun e w' => e = .returned (.agg #[.string s, .int .i64 ((k : Int) * 8)]) ∧ Below w.heap.size w w')) :
    Calls Try.prog 76 #[.agg #[.string s, .int .i64 a], .int .i64 n] w fun e w' => e = .returned (errB 2) ∧ Below w.heap.size w w' := by
  have hfd : ∀ w : World, (Instr.field 46 (.agg #[.string s, .int .i64 ((k : Int) * 8)]) 1).run Try.prog w = .ok (.int .i64 ((k : Int) * 8)) w := fun _ => by kernel_rfl
  go_enter Try.func76, Try.ntmps76
  go_wp2_with fail
  refine (isright_yes s a _ hs h0 h1).mono ?_
  rintro e w1 ⟨rfl, hb⟩
  obtain ⟨⟨c0, c1, f0, f1, cz⟩, ⟨d0, d1, g0, g1, hz⟩, H⟩ := box2_kept hb
  have H1 := Lib.hid H
  clear hb H
  go_wp2_with fail
  refine (HA.out _).mono ?_
  rintro e w2 ⟨rfl, hb⟩
  obtain ⟨c0', c1', f0', f1', cz'⟩ := Box.keep ⟨c0, c1, f0, f1, cz⟩ hb
  obtain ⟨d0', d1', g0', g1', hz'⟩ := Box.keep ⟨d0, d1, g0, g1, hz⟩ hb
  have H2 := Lib.hid (bq_trans H1.out hb)
  clear hb
  go_wp2_with fail
  exact bytes_post (((Box.set0 ⟨d0', d1', g0', g1', hz'⟩ _).set1 _)) rfl rfl rfl rfl ⟨rfl, bq_set (bq_set H2.out _ (by simp) _) _ (by simp) _⟩
set_option maxHeartbeats 1000000 in
theorem bytes_ok (s : ByteArray) (a : Int) (k n : Nat) (w : World) (hs : s.size ≤ 1099511627776) (h0 : 0 ≤ a) (h1 : a ≤ 8 * s.size) (hk : k + n ≤ s.size)
    (HA : Hid (∀ w, Calls Try.prog 90 #[.agg #[.string s, .int .i64 a]] w fun e w' => e = .returned (.agg #[.string s, .int .i64 ((k : Int) * 8)]) ∧ Below w.heap.size w w')) :
    Calls Try.prog 76 #[.agg #[.string s, .int .i64 a], .int .i64 n] w fun e w' => e = .returned (.tuple #[.string (s.extract k (k + n)), .agg #[.string s, .int .i64 (8 * ((k : Int) + (n : Int)))], .int .i64 0]) ∧ Below w.heap.size w w' := by
  have hfd : ∀ w : World, (Instr.field 46 (.agg #[.string s, .int .i64 ((k : Int) * 8)]) 1).run Try.prog w = .ok (.int .i64 ((k : Int) * 8)) w := fun _ => by kernel_rfl
  go_enter Try.func76, Try.ntmps76
  go_wp2_with fail
  refine (isright_yes s a _ hs h0 h1).mono ?_
  rintro e w1 ⟨rfl, hb⟩
  obtain ⟨⟨c0, c1, f0, f1, cz⟩, ⟨d0, d1, g0, g1, hz⟩, H⟩ := box2_kept hb
  have H1 := Lib.hid H
  clear hb H
  go_wp2_with fail
  refine (HA.out _).mono ?_
  rintro e w2 ⟨rfl, hb⟩
  obtain ⟨c0', c1', f0', f1', cz'⟩ := Box.keep ⟨c0, c1, f0, f1, cz⟩ hb
  obtain ⟨d0', d1', g0', g1', hz'⟩ := Box.keep ⟨d0, d1, g0, g1, hz⟩ hb
  have H2 := Lib.hid (bq_trans H1.out hb)
  clear hb
  go_wp2_with fail
  clear c0 c1 f0 f1 cz d0 d1 g0 g1 hz H1
  have b1 : (0 : Int) ≤ (k : Int) := by omega
  have b2 : (k : Int) ≤ (k : Int) + (n : Int) := by omega
  have b3 : (k : Int) + (n : Int) ≤ (s.size : Int) := by omega
  have wr1 := i64_wrap ((k : Int) + (n : Int)) (by omega) (by omega)
  have wr2 := i64_wrap (8 * ((k : Int) + (n : Int))) (by omega) (by omega)
  have tn : ((k : Int) + (n : Int)).toNat = k + n := by omega
  go_region_held3 (fun w' => w'.cell? ⟨w.heap.size, 0, none⟩ = some (.string s)) (go_keep) (fail)
  all_goals go_wp2
  exact bytes_post ((((Box.drewN ⟨d0', d1', g0', g1', hz'⟩ _).set0 _).set1 _)) rfl rfl rfl rfl ⟨rfl, bq_set (bq_set (bq_drewN H2.out _) _ (by simp) _) _ (by simp) _⟩
theorem bytes_any (s : ByteArray) (a n : Int) (w : World) (hs : s.size ≤ 1099511627776) :
    Calls Try.prog 76 #[.agg #[.string s, .int .i64 a], .int .i64 n] w fun e w' => e = .returned (byR s a n) ∧ Below w.heap.size w w' := by
  by_cases h : 0 ≤ a ∧ a ≤ 8 * s.size ∧ 0 ≤ n
  · obtain ⟨k, hk⟩ : ∃ k : Nat, (k : Int) = (a + 7) / 8 := ⟨((a + 7) / 8).toNat, by omega⟩
    have HA := fun w => align_any s a w hs
    rw [alA, if_pos ⟨h.1, h.2.1⟩, ← hk] at HA
    by_cases h2 : (s.size : Int) - (a + 7) / 8 < n
    · rw [byR_short h h2]; exact bytes_short s a n k w hs h.1 h.2.1 h.2.2 (by omega) (by omega) (Lib.hid HA)
    · obtain ⟨N, rfl⟩ := Int.eq_ofNat_of_zero_le h.2.2
      rw [byR_ok h hk h2]; exact bytes_ok s a k N w hs h.1 h.2.1 (by omega) (Lib.hid HA)
  · rw [byR_arg h]
    by_cases h3 : 0 ≤ a ∧ a ≤ 8 * s.size
    · exact bytes_bad2 s a n w hs h3.1 h3.2 (by omega)
    · exact bytes_bad1 s a n w hs (by omega)
end Go.Proofs.Ythlnjipefeglpaa
namespace Go.Proofs.Ythlnjipefeglpaa
open Go.RowKit
set_option linter.unusedVariables false
def mxW (zs : List Int) : Nat := zs.foldl (fun m v => max m (wd v)) 0
def mxP (zs : List Int) : Int := zs.foldl (fun m v => max m v) 0
theorem mxW_snoc (zs : List Int) (v : Int) : mxW (zs ++ [v]) = max (mxW zs) (wd v) := by simp [mxW]
theorem mxW_take (zs : List Int) (k : Nat) (h : k < zs.length) : mxW (zs.take (k + 1)) = max (mxW (zs.take k)) (wd zs[k]) := by
  rw [List.take_succ_eq_append_getElem h, mxW_snoc]
def MxRel (zs : List Int) (m i : Value) : Prop := ∃ k x : Nat, k ≤ zs.length ∧ i = .int .i64 k ∧ m = .int .i64 (x : Int) ∧ x = mxW (zs.take k) ∧ x ≤ 64
def MpRel (zs : List Int) (m i : Value) : Prop := ∃ k : Nat, ∃ x : Int, k ≤ zs.length ∧ i = .int .i64 k ∧ m = .int .i64 x ∧ x = mxP (zs.take k) ∧ 0 ≤ x ∧ x ≤ 9223372036854775807
theorem max_nat (x y : Nat) : (if x < y then (y : Int) else (x : Int)) = ((max x y : Nat) : Int) := by rw [Nat.max_def]; split <;> split <;> omega
set_option maxHeartbeats 1000000 in
theorem width_list (zs : List Int) (a : Option Addr) (b o c : Nat) (w : World) (hl : zs.length ≤ 1000000) (ha : Hid (zs.length = 0 ∨ a = some ⟨b, o, none⟩)) (hz : Hid (∀ i (h : i < zs.length), -9223372036854775808 ≤ zs[i] ∧ zs[i] ≤ 9223372036854775807))
    (hc : Hid (∀ i (h : i < zs.length), w.cell? ⟨b, o + i, none⟩ = some (.int .i64 zs[i]))) :
    Calls Try.prog 85 #[.slice a zs.length c] w fun e w' => e = .returned (.int .i64 (mxW zs : Int)) ∧ w = w' := by
  go_enter Try.func85, Try.ntmps85
  go_wp2
  go_loop [3, 8] (fun m i => MxRel zs m i) (fun _ i => zs.length - (intOf i).toNat)
  case atStart => exact ⟨0, 0, by omega, rfl, rfl, rfl, by omega⟩
  case round =>
    obtain ⟨k, x, hk, rfl, rfl, hx, hx2⟩ := hrel
    have HX := Lib.hid hx
    clear hx
    by_cases hlt : k < zs.length
    · obtain rfl : a = some ⟨b, o, none⟩ := ha.out.resolve_left (by omega)
      have hcell := hc.out k hlt
      have hbd := hz.out k hlt
      have hstep := mxW_take zs k hlt
      rw [← HX.out] at hstep
      generalize zs[k] = z at *
      have hw64 := wd_le z hbd.1 hbd.2
      have HW := Lib.hid (fun w => width_any z w hbd.1 hbd.2)
      generalize wd z = y at *
      have HS := Lib.hid hstep
      clear hstep
      go_wp2_with (go_at_call 101; refine (HW.out _).mono ?_; rintro e w' ⟨rfl, rfl⟩)
      rw [max_nat]
      go_round
      case rel => exact ⟨k + 1, max x y, by omega, by go_num, rfl, HS.out.symm, by omega⟩
      case measure => simp [intOf]; omega
    · obtain rfl : k = zs.length := by omega
      have HL : Hid (mxW zs = x) := Lib.hid (by rw [HX.out, List.take_length])
      go_wp2
      go_ret
      exact ⟨ret_int (by rw [HL.out]), rfl⟩
end Go.Proofs.Ythlnjipefeglpaa
namespace Go.Proofs.Ythlnjipefeglpaa
open Go.RowKit
set_option linter.unusedVariables false
namespace F
def len : List (Nat × Nat) → Nat
  | [] => 0
  | p :: fs => p.2 + len fs
def num : List (Nat × Nat) → Nat
  | [] => 0
  | p :: fs => p.1 * B.P2 (len fs) + num fs
def ok (fs : List (Nat × Nat)) : Prop := ∀ p ∈ fs, p.1 < B.P2 p.2
theorem ok_cons {p : Nat × Nat} {fs : List (Nat × Nat)} (h : ok (p :: fs)) : p.1 < B.P2 p.2 ∧ ok fs := ⟨h p (by simp), fun q hq => h q (by simp [hq])⟩
theorem ok_nil : ok [] := fun p hp => by simp at hp
theorem ok_app {a b : List (Nat × Nat)} (ha : ok a) (hb : ok b) : ok (a ++ b) := fun p hp => (List.mem_append.1 hp).elim (ha p) (hb p)
theorem ok_one {v n : Nat} (h : v < B.P2 n) : ok [(v, n)] := fun p hp => by simp at hp; subst hp; exact h
theorem len_app (a b : List (Nat × Nat)) : len (a ++ b) = len a + len b := by
  induction a with
  | nil => simp [len]
  | cons p a ih => simp only [List.cons_append, len, ih]; omega
theorem num_app (a b : List (Nat × Nat)) : num (a ++ b) = num a * B.P2 (len b) + num b := by
  induction a with
  | nil => simp [num]
  | cons p a ih => simp only [List.cons_append, num, ih, len_app, B.P2_add, Nat.add_mul, Nat.mul_assoc, Nat.add_assoc]
theorem num_lt {fs : List (Nat × Nat)} (h : ok fs) : num fs < B.P2 (len fs) := by
  induction fs with
  | nil => simp [num, len, B.P2_zero]
  | cons p fs ih => exact B.join_lt (ok_cons h).1 (ih (ok_cons h).2)
def bys (fs : List (Nat × Nat)) : List UInt8 := B.putL [] 0 (num fs) (len fs)
def fr (fs : List (Nat × Nat)) : Nat := B.putF 0 0 (len fs)
theorem bys_len (fs : List (Nat × Nat)) : (bys fs).length = (len fs + 7) / 8 := by
  unfold bys; rw [B.putL_len]; unfold B.putN; simp
theorem snd {fs : List (Nat × Nat)} (h : ok fs) : B.Snd (bys fs) (fr fs) := B.putL_snd [] 0 _ _ (by omega) (num_lt h)
theorem put {fs : List (Nat × Nat)} {v n : Nat} (h : ok fs) (hv : v < B.P2 n) : B.putL (bys fs) (fr fs) v n = bys (fs ++ [(v, n)]) ∧ B.putF (bys fs).length (fr fs) n = fr (fs ++ [(v, n)]) := by
  have e1 : len (fs ++ [(v, n)]) = len fs + n := by rw [len_app]; simp [len]
  have e2 : num (fs ++ [(v, n)]) = num fs * B.P2 n + v := by rw [num_app]; simp [len, num, B.P2_zero]
  constructor
  · unfold bys fr
    rw [e1, e2]
    exact B.putL_comp [] 0 (num fs) (len fs) v n (by omega) (num_lt h) hv
  · unfold fr
    rw [e1]
    unfold bys
    rw [B.putL_len]
    exact B.putF_comp 0 0 (len fs) n (by omega)
def wrV (fs : List (Nat × Nat)) : Value := .agg #[.string (bs (bys fs)), .int .i64 (fr fs : Int)]
theorem nf_bys {fs : List (Nat × Nat)} (h : ok fs) : nf (bs (bys fs)) (fr fs : Int) = fr fs := nf_of_snd _ _ (by rw [bs_data]; exact snd h)
theorem ppR_bys {fs : List (Nat × Nat)} {v n : Nat} (h : ok fs) (hv : v < B.P2 n) : ppR (bs (bys fs)) (fr fs : Int) v n = .tuple #[wrV (fs ++ [(v, n)]), .int .i64 0] := by
  unfold ppR wrV
  rw [nf_bys h, bs_data, bs_size, (put h hv).1, (put h hv).2]
def nums (h : Nat) (l : List Int) : List (Nat × Nat) := (mxW l, h) :: l.map fun v => (sgU v (mxW l), mxW l)
theorem mxW_from (c : Nat) (l : List Int) : l.foldl (fun m v => max m (wd v)) c = max c (mxW l) := by
  unfold mxW
  induction l generalizing c with
  | nil => simp
  | cons v l ih => rw [List.foldl_cons, List.foldl_cons, ih, ih (max 0 (wd v))]; omega
theorem mxW_app (a b : List Int) : mxW (a ++ b) = max (mxW a) (mxW b) := by
  rw [mxW, List.foldl_append, mxW_from]; rfl
theorem mxW_mem {l : List Int} {v : Int} (h : v ∈ l) : wd v ≤ mxW l := by
  obtain ⟨a, b, rfl⟩ := List.append_of_mem h
  rw [show a ++ v :: b = a ++ [v] ++ b by simp, mxW_app, mxW_snoc]
  omega
theorem mxW_cons (v : Int) (l : List Int) : mxW (v :: l) = max (wd v) (mxW l) := by
  rw [show v :: l = [v] ++ l from rfl, mxW_app]
  simp [mxW]
theorem mxW_le {l : List Int} {n : Nat} (h : ∀ v ∈ l, wd v ≤ n) : mxW l ≤ n := by
  induction l with
  | nil => simp [mxW]
  | cons v l ih =>
    rw [mxW_cons]
    have h1 := ih fun u hu => h u (by simp [hu])
    have h2 := h v (by simp)
    omega
theorem len_map (l : List Int) (f : Int → Nat) (n : Nat) : len (l.map fun v => (f v, n)) = l.length * n := by
  induction l with
  | nil => simp [len]
  | cons v l ih => simp only [List.map_cons, len, ih, List.length_cons, Nat.add_mul, Nat.one_mul]; omega
theorem nums_len (h : Nat) (l : List Int) : len (nums h l) = h + l.length * mxW l := by
  unfold nums; rw [len, len_map]
theorem nums_ok {h : Nat} {l : List Int} (h1 : mxW l < B.P2 h) (h2 : mxW l ≤ 31) (hb : ∀ v ∈ l, -9223372036854775808 ≤ v ∧ v ≤ 9223372036854775807) : ok (nums h l) := by
  intro p hp
  unfold nums at hp
  rcases List.mem_cons.1 hp with rfl | hp
  · exact h1
  · obtain ⟨v, hv, rfl⟩ := List.mem_map.1 hp
    exact (sgU_lt v (mxW l) (hb v hv).1 (hb v hv).2 h2 (mxW_mem hv)).1
theorem nums_take (h : Nat) (l : List Int) (k : Nat) (hk : k < l.length) : (nums h l).take (k + 2) = (nums h l).take (k + 1) ++ [(sgU l[k] (mxW l), mxW l)] := by
  unfold nums
  rw [List.take_succ_cons, List.take_succ_cons, List.take_succ_eq_append_getElem (by simpa using hk), List.getElem_map]
  simp
theorem nums_all (h : Nat) (l : List Int) : (nums h l).take (l.length + 1) = nums h l := by
  rw [List.take_of_length_le]; simp [nums]
theorem ok_take {fs : List (Nat × Nat)} (h : ok fs) (k : Nat) : ok (fs.take k) := fun p hp => h p (List.mem_of_mem_take hp)
theorem bit_len (b : Nat) : len [(b, 1)] = 1 := rfl
end F
structure RS where
  s : ByteArray
  a : Int
  e : Int
namespace RS
def pl (x : RS) (n : Int) : Int := if x.e = 0 then plV x.s x.a n else 0
def sg (x : RS) (n : Int) : Int := if x.e = 0 then sgV x.s x.a n else 0
def go (x : RS) (n : Int) : RS := if x.e = 0 then ⟨plS x.s x.a n, plA x.s x.a n, plE x.s.size x.a n⟩ else x
def on (x : RS) (n : Int) : Nat → RS
  | 0 => x
  | k + 1 => (on x n k).go n
def l (x : RS) (n : Int) : Nat → List Int
  | 0 => []
  | k + 1 => l x n k ++ [(on x n k).sg n]
def cells (x : RS) : Array Value := #[.string x.s, .int .i64 x.a, .int .i64 x.e]
theorem go_size (x : RS) (n : Int) {m : Nat} (h : x.s.size ≤ m) : (x.go n).s.size ≤ m := by
  unfold go
  split
  · show (plS x.s x.a n).size ≤ m
    unfold plS
    split
    · exact h
    · exact Nat.zero_le _
  · exact h
theorem on_size (x : RS) (n : Int) (k : Nat) {m : Nat} (h : x.s.size ≤ m) : (x.on n k).s.size ≤ m := by
  induction k with
  | zero => exact h
  | succ k ih => exact go_size _ _ ih
theorem plV_bd (s : ByteArray) (a n : Int) : 0 ≤ plV s a n ∧ plV s a n ≤ 2147483647 ∧ (0 ≤ n → plV s a n < B.P2 n.toNat) := by
  unfold plV
  split
  · rename_i h
    have hn : 0 ≤ n ∧ n ≤ 31 := by
      unfold plE at h
      split at h
      · omega
      · cases h
    have h1 := B.fld_lt s.data.toList a.toNat n.toNat
    have h2 : B.P2 n.toNat ≤ 2147483648 := B.P2_le (b := 31) (by omega)
    omega
  · have := B.P2_pos n.toNat
    omega
theorem sgV_bd (s : ByteArray) (a n : Int) : -2147483648 ≤ sgV s a n ∧ sgV s a n ≤ 2147483647 := by
  have hp := plV_bd s a n
  unfold sgV
  split
  · rename_i h
    have hn : plE s.size a n = 0 := by
      apply Decidable.byContradiction
      intro hh
      have : plV s a n = 0 := if_neg hh
      have := B.P2_pos n.toNat
      omega
    have hn2 : n ≤ 31 := by
      unfold plE at hn
      split at hn
      · omega
      · cases hn
    have h2 : B.P2 n.toNat ≤ 2147483648 := B.P2_le (b := 31) (by omega)
    omega
  · omega
theorem sg_bd (x : RS) (n : Int) : -2147483648 ≤ x.sg n ∧ x.sg n ≤ 2147483647 := by
  unfold sg
  split
  · exact sgV_bd _ _ _
  · omega
def fin (x : RS) (b : Bool) : RS := if x.e = 0 then (if b = true then ⟨x.s, alA x.s.size x.a, 0⟩ else ⟨⟨#[]⟩, 0, 3⟩) else ⟨⟨#[]⟩, 0, x.e⟩
def begP (s : ByteArray) (a : Int) : RS := ⟨s, alA s.size a, 0⟩
def begR (s : ByteArray) (a : Int) : RS := if 0 ≤ a ∧ a ≤ 8 * s.size then ⟨s, alA s.size a, 0⟩ else ⟨⟨#[]⟩, 0, 1⟩
end RS
end Go.Proofs.Ythlnjipefeglpaa
