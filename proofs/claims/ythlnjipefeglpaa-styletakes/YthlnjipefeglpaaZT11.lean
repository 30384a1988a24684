import Derived.Test.YthlnjipefeglpaaZT5
import Derived.Test.YthlnjipefeglpaaZT10
import Derived.BigRegion
namespace Go.Proofs.Ythlnjipefeglpaa
open Go.RowKit
set_option linter.unusedVariables false
theorem islittle_yes (n : Int) (w : World) (h0 : 1 ≤ n) (h1 : n ≤ 4) : Calls Try.prog 65 #[.int .i64 n] w fun e w' => e = .returned (.bool true) ∧ w = w' :=
  (islittle_any n w).mono fun e w' ⟨he, hw⟩ => ⟨by rw [he]; simp; omega, hw⟩
theorem islittle_no (n : Int) (w : World) (h : n < 1 ∨ 4 < n) : Calls Try.prog 65 #[.int .i64 n] w fun e w' => e = .returned (.bool false) ∧ w = w' :=
  (islittle_any n w).mono fun e w' ⟨he, hw⟩ => ⟨by rw [he]; simp; omega, hw⟩
theorem little_post {Q : Ending → World → Prop} {a : Act} {W : World} {g : Nat} {x y u v : Value} (hbox : Box W g x y) (h4 : a.tmps[4]?.getD undef = u) (h5 : a.tmps[5]?.getD undef = .pointer (some ⟨g, 0, none⟩)) (h6 : a.tmps[6]?.getD undef = v)
    (hd : a.defers = []) (hQ : Q (.returned (.tuple #[u, .agg #[x, y], v])) W) : bodyPost Try.prog Try.f75 Q Exit.ret a W :=
  bodyPost_ret (v := .tuple #[u, .agg #[x, y], v]) (by simp [results, Try.results75, go_sem, h4, h5, h6, hbox.1, hbox.2.1]) hd hQ
theorem reflittle_post {Q : Ending → World → Prop} {a : Act} {W : World} {g : Nat} {x y u v : Value} (hbox : Box W g x y) (h4 : a.tmps[4]?.getD undef = u) (h5 : a.tmps[5]?.getD undef = .pointer (some ⟨g, 0, none⟩)) (h6 : a.tmps[6]?.getD undef = v)
    (hd : a.defers = []) (hQ : Q (.returned (.tuple #[u, .agg #[x, y], v])) W) : bodyPost Try.prog Try.f62 Q Exit.ret a W :=
  bodyPost_ret (v := .tuple #[u, .agg #[x, y], v]) (by simp [results, Try.results62, go_sem, h4, h5, h6, hbox.1, hbox.2.1]) hd hQ
theorem little_bad (s : ByteArray) (a n : Int) (w : World) (h : n < 1 ∨ 4 < n) :
    Calls Try.prog 75 #[.agg #[.string s, .int .i64 a], .int .i64 n] w fun e w' => e = .returned (errR 1) ∧ Below w.heap.size w w' := by
  have H := Lib.hid h
  clear h
  go_enter Try.func75, Try.ntmps75
  go_wp2_with fail
  refine (islittle_no n _ H.out).mono ?_
  rintro e w1 ⟨rfl, rfl⟩
  go_wp2_with fail
  exact bodyPost_ret (v := errR 1) (by simp [results, Try.results75, go_sem, errR]) rfl ⟨rfl, bq_alloc (bq_alloc (bq_refl w) _) _⟩
theorem reflittle_bad (s : ByteArray) (a n : Int) (w : World) (h : n < 1 ∨ 4 < n) :
    Calls Try.prog 62 #[.agg #[.string s, .int .i64 a], .int .i64 n] w fun e w' => e = .returned (errR 1) ∧ Below w.heap.size w w' := by
  rcases h with h | h
  all_goals
    go_enter Try.func62, Try.ntmps62
    go_wp2_with fail
    exact bodyPost_ret (v := errR 1) (by simp [results, Try.results62, go_sem, errR]) rfl ⟨rfl, bq_alloc (bq_alloc (bq_refl w) _) _⟩
theorem quiet_same {P : Program} {f : FuncId} {args : Array Value} {w : World} {n : Nat} {v : Value}
    (h : Calls P f args (w.drewN n) fun e w' => e = .returned v ∧ w.drewN n = w') : Calls P f args (w.drewN n) fun e w'' => e = .returned v ∧ ∃ m, w'' = w.drewN m :=
  h.mono fun _ _ ⟨he, hm⟩ => ⟨he, n, hm.symm⟩
def LiRel (t : ByteArray) (v i : Value) : Prop := ∃ k x : Nat, k ≤ t.size ∧ i = .int .i64 k ∧ v = .int .i64 (x : Int) ∧ x = B.lv (t.data.toList.take k)
theorem or_shl (x k : Nat) (c : UInt8) (hk : k ≤ 3) (hx : x < B.P2 (8 * k)) : bits .or .i64 (x : Int) (wrap64 (wrap64 (c.toNat : Int) * 2 ^ (8 * k))) = ((x + c.toNat * B.P2 (8 * k) : Nat) : Int) := by
  have hc := c.toNat_lt
  have hp : B.P2 (8 * k) ≤ 16777216 := B.P2_le (b := 24) (by omega)
  have hm : c.toNat * B.P2 (8 * k) ≤ 256 * 16777216 := Nat.mul_le_mul (by omega) hp
  rw [P2_cast, i64_id (c.toNat : Int) (by omega) (by omega), show (c.toNat : Int) * (B.P2 (8 * k) : Int) = ((c.toNat * B.P2 (8 * k) : Nat) : Int) by push_cast; rfl, i64_id _ (by omega) (by omega)]
  have hj := nat_join (8 * k) (c.toNat * B.P2 (8 * k)) x (Nat.mul_mod_left _ _) hx
  rw [i64_or_nat _ _ (by omega) (by omega), Nat.or_comm, hj, Nat.add_comm]
set_option maxHeartbeats 1000000 in
theorem little_core (s t u : ByteArray) (a n A E : Int) (w : World) (h0 : 1 ≤ n) (h1 : n ≤ 4) (ht : t.size ≤ 4)
    (HP : Hid (∀ w, Calls Try.prog 76 #[.agg #[.string s, .int .i64 a], .int .i64 n] w fun e w' => e = .returned (.tuple #[.string t, .agg #[.string u, .int .i64 A], .int .i64 E]) ∧ Below w.heap.size w w')) :
    Calls Try.prog 75 #[.agg #[.string s, .int .i64 a], .int .i64 n] w fun e w' => e = .returned (.tuple #[.int .i64 (B.lv t.data.toList : Int), .agg #[.string u, .int .i64 A], .int .i64 E]) ∧ Below w.heap.size w w' := by
  go_enter Try.func75, Try.ntmps75
  go_wp2_with fail
  refine (islittle_yes n _ h0 h1).mono ?_
  rintro e w1 ⟨rfl, rfl⟩
  go_wp2_with fail
  refine (HP.out _).mono ?_
  rintro e w1 ⟨rfl, hb⟩
  obtain ⟨⟨c0, c1, f0, f1, cz⟩, ⟨d0, d1, g0, g1, hz⟩, H⟩ := box2_kept hb
  have H1 := Lib.hid H
  clear hb H
  go_wp2_with fail
  have BN := box_new w1 (.string u) (.int .i64 A) 46
  have BR := Box.alloc ⟨d0, d1, g0, g1, hz⟩ (.cells #[.string u, .int .i64 A] 46)
  have HB := Lib.hid (bq_alloc H1.out (.cells #[.string u, .int .i64 A] 46))
  generalize w1.alloc (.cells #[.string u, .int .i64 A] 46) = W at BN BR HB ⊢
  have ne1 : ¬ w.heap.size + 1 = w1.heap.size := by omega
  have ne2 : ¬ w1.heap.size = w.heap.size + 1 := by omega
  obtain ⟨p0, p1, _, _, _⟩ := BN
  obtain ⟨q0, q1, k0, k1, kz⟩ := BR
  clear c0 c1 f0 f1 cz d0 d1 g0 g1 H1
  go_loop [10, 25] (fun v i => LiRel t v i) (fun _ i => t.size - (intOf i).toNat)
  case atStart => exact ⟨0, 0, by omega, rfl, rfl, rfl⟩
  case round =>
    obtain ⟨k, x, hk, rfl, rfl, hx⟩ := hrel
    have hx2 : x < B.P2 (8 * k) := by rw [hx]; exact B.lv_take_lt _ _
    have hx3 : x < B.P2 32 := Nat.lt_of_lt_of_le hx2 (B.P2_le (by omega))
    have hx4 : x < 4294967296 := hx3
    have HX := Lib.hid hx
    have HX2 := Lib.hid hx2
    clear hx hx2 hx3
    by_cases hlt : k < t.size
    · have HO := Lib.hid (or_shl x k t[k] (by omega) HX2.out)
      have hstep := B.lv_take_succ t.data.toList k (by rw [bytes_length]; omega)
      rw [← HX.out, ← bytes_getElem t k hlt] at hstep
      have HS := Lib.hid hstep
      clear hstep
      go_wp2
      go_round
      case rel => exact ⟨k + 1, _, by omega, by go_num, by rw [HO.out], HS.out.symm⟩
      case measure => simp [intOf]; omega
    · obtain rfl : k = t.size := by omega
      have HL : Hid (B.lv t.data.toList = x) := Lib.hid (by rw [HX.out, B.lv_take_all _ _ (by rw [bytes_length]; omega)])
      go_wp2_with fail
      go_region_held3 (fun w' => w'.cell? ⟨w1.heap.size, 0, none⟩ = some (.string u) ∧ w'.cell? ⟨w1.heap.size, 1, none⟩ = some (.int .i64 A)) (go_keep) (fail)
      all_goals go_wp2
      exact little_post (((Box.drewN ⟨q0, q1, k0, k1, kz⟩ _).set0 _).set1 _) rfl rfl rfl rfl ⟨by rw [HL.out]; rfl, bq_set (bq_set (bq_drewN HB.out _) _ (by simp) _) _ (by simp) _⟩
set_option maxHeartbeats 1000000 in
theorem reflittle_core (s t u : ByteArray) (a n A E : Int) (w : World) (h0 : 1 ≤ n) (h1 : n ≤ 4) (ht : t.size ≤ 4)
    (HP : Hid (∀ w, Calls Try.prog 81 #[.agg #[.string s, .int .i64 a], .int .i64 n] w fun e w' => e = .returned (.tuple #[.string t, .agg #[.string u, .int .i64 A], .int .i64 E]) ∧ Below w.heap.size w w')) :
    Calls Try.prog 62 #[.agg #[.string s, .int .i64 a], .int .i64 n] w fun e w' => e = .returned (.tuple #[.int .i64 (B.lv t.data.toList : Int), .agg #[.string u, .int .i64 A], .int .i64 E]) ∧ Below w.heap.size w w' := by
  go_enter Try.func62, Try.ntmps62
  go_wp2_with fail
  refine (HP.out _).mono ?_
  rintro e w1 ⟨rfl, hb⟩
  obtain ⟨⟨c0, c1, f0, f1, cz⟩, ⟨d0, d1, g0, g1, hz⟩, H⟩ := box2_kept hb
  have H1 := Lib.hid H
  clear hb H
  go_wp2_with fail
  have BN := box_new w1 (.string u) (.int .i64 A) 51
  have BR := Box.alloc ⟨d0, d1, g0, g1, hz⟩ (.cells #[.string u, .int .i64 A] 51)
  have HB := Lib.hid (bq_alloc H1.out (.cells #[.string u, .int .i64 A] 51))
  generalize w1.alloc (.cells #[.string u, .int .i64 A] 51) = W at BN BR HB ⊢
  have ne1 : ¬ w.heap.size + 1 = w1.heap.size := by omega
  have ne2 : ¬ w1.heap.size = w.heap.size + 1 := by omega
  have QN := Lib.hid BN
  have QR := Lib.hid BR
  clear c0 c1 f0 f1 cz d0 d1 g0 g1 H1 BN BR
  go_loopw [10, 11] (fun v i wr => LiRel t v i ∧ ∃ m, wr = W.drewN m) (fun _ i _ => t.size - (intOf i).toNat)
  case atStart => exact ⟨⟨0, 0, by omega, rfl, rfl, rfl⟩, 0, rfl⟩
  case round =>
    obtain ⟨⟨k, x, hk, rfl, rfl, hx⟩, hwr⟩ := hrel
    have HW := Lib.hid hwr
    clear hwr
    have hx2 : x < B.P2 (8 * k) := by rw [hx]; exact B.lv_take_lt _ _
    have hx3 : x < B.P2 32 := Nat.lt_of_lt_of_le hx2 (B.P2_le (by omega))
    have hx4 : x < 4294967296 := hx3
    have HX := Lib.hid hx
    clear hx hx2 hx3
    by_cases hlt : k < t.size
    · have hstep := B.lv_take_succ t.data.toList k (by rw [bytes_length]; omega)
      rw [← HX.out, ← bytes_getElem t k hlt] at hstep
      have HS := Lib.hid hstep
      have hcc := t[k].toNat_lt
      have HP := fun w => power_any (8 * k) w (by omega)
      have hpp : B.P2 (8 * k) ≤ 16777216 := B.P2_le (b := 24) (by omega)
      have hm : t[k].toNat * B.P2 (8 * k) ≤ 256 * 16777216 := Nat.mul_le_mul (by omega) hpp
      generalize B.P2 (8 * k) = y at *
      have HE : Hid (wrap64 ((x : Int) + wrap64 (wrap64 (t[k].toNat : Int) * (y : Int))) = ((x + t[k].toNat * y : Nat) : Int)) := Lib.hid (by
        rw [i64_id (t[k].toNat : Int) (by omega) (by omega), show (t[k].toNat : Int) * (y : Int) = ((t[k].toNat * y : Nat) : Int) by push_cast; rfl, i64_id ((t[k].toNat * y : Nat) : Int) (by omega) (by omega), i64_id _ (by omega) (by omega)]
        omega)
      have HM := Lib.hid hm
      have HP2 := Lib.hid HP
      clear hstep hm HP hcc hpp
      have i1 : (0 : Int) ≤ (k : Int) := by omega
      have i2 : (k : Int) < (t.size : Int) := by omega
      have wr1 : IntKind.i64.wrap (8 * (k : Int)) = ((8 * k : Nat) : Int) := by rw [i64_wrap _ (by omega) (by omega)]; omega
      go_wp2_with fail
      go_quiet ((go_at_call 82; exact quiet_same (HP2.out _)))
      go_wp2
      go_roundw
      case rel =>
        refine ⟨⟨k + 1, _, by omega, by go_num, by rw [HE.out], HS.out.symm⟩, ?_⟩
        obtain ⟨m, hm⟩ := HW.out
        exact ⟨m + nq, by rw [hm, World.drewN_drewN]⟩
      case measure => simp [intOf]; omega
    · obtain rfl : k = t.size := by omega
      have HL : Hid (B.lv t.data.toList = x) := Lib.hid (by rw [HX.out, B.lv_take_all _ _ (by rw [bytes_length]; omega)])
      obtain ⟨m, rfl⟩ := HW.out
      have BN := QN.out.drewN m
      have BR := QR.out.drewN m
      have HB2 := Lib.hid (bq_drewN HB.out m)
      clear QN QR HW HB
      generalize W.drewN m = W2 at BN BR HB2 ⊢
      obtain ⟨p0, p1, _, _, _⟩ := BN
      obtain ⟨q0, q1, k0, k1, kz⟩ := BR
      go_wp2_with fail
      go_region_held3 (fun w' => w'.cell? ⟨w1.heap.size, 0, none⟩ = some (.string u) ∧ w'.cell? ⟨w1.heap.size, 1, none⟩ = some (.int .i64 A)) (go_keep) (fail)
      all_goals go_wp2
      exact reflittle_post (((Box.drewN ⟨q0, q1, k0, k1, kz⟩ _).set0 _).set1 _) rfl rfl rfl rfl ⟨by rw [HL.out]; rfl, bq_set (bq_set (bq_drewN HB2.out _) _ (by simp) _) _ (by simp) _⟩
def liR (s : ByteArray) (a n : Int) : Value := if 1 ≤ n ∧ n ≤ 4 then .tuple #[.int .i64 (B.lv (byB s a n).data.toList : Int), .agg #[.string (byS s a n), .int .i64 (byA s a n)], .int .i64 (byE s.size a n)] else errR 1
theorem byB_size (s : ByteArray) (a n : Int) (h : n ≤ 4) : (byB s a n).size ≤ 4 := by
  unfold byB
  split
  · rw [ByteArray.size_extract]; omega
  · exact Nat.zero_le _
theorem little_any (s : ByteArray) (a n : Int) (w : World) (hs : s.size ≤ 1099511627776) :
    Calls Try.prog 75 #[.agg #[.string s, .int .i64 a], .int .i64 n] w fun e w' => e = .returned (liR s a n) ∧ Below w.heap.size w w' := by
  by_cases h : 1 ≤ n ∧ n ≤ 4
  · rw [liR, if_pos h]; exact little_core s _ _ a n _ _ w h.1 h.2 (byB_size s a n h.2) (Lib.hid fun w => bytes_any s a n w hs)
  · rw [liR, if_neg h]; exact little_bad s a n w (by omega)
theorem reflittle_any (s : ByteArray) (a n : Int) (w : World) (hs : s.size ≤ 1099511627776) :
    Calls Try.prog 62 #[.agg #[.string s, .int .i64 a], .int .i64 n] w fun e w' => e = .returned (liR s a n) ∧ Below w.heap.size w w' := by
  by_cases h : 1 ≤ n ∧ n ≤ 4
  · rw [liR, if_pos h]; exact reflittle_core s _ _ a n _ _ w h.1 h.2 (byB_size s a n h.2) (Lib.hid fun w => refbytes_any s a n w hs)
  · rw [liR, if_neg h]; exact reflittle_bad s a n w (by omega)
end Go.Proofs.Ythlnjipefeglpaa
namespace Go.Proofs.Ythlnjipefeglpaa
open Go.RowKit
set_option linter.unusedVariables false
attribute [local go_sem ↓] Go.wp_at_zero Go.wp_at_succ
end Go.Proofs.Ythlnjipefeglpaa
namespace Go.Proofs.Ythlnjipefeglpaa
open Go.RowKit
set_option linter.unusedVariables false
def errF : Value := .tuple #[.agg #[.string ⟨#[]⟩, .int .i64 0], .bool false]
def rpR (s : ByteArray) (f : Int) (v n : Nat) : Value := .tuple #[.agg #[.string (bs (B.putL s.data.toList (nf s f) v n)), .int .i64 (B.putF s.size (nf s f) n : Int)], .bool true]
def RpRel (w : World) (l : List UInt8) (f v n : Nat) (i : Value) (wr : World) : Prop :=
  ∃ k : Nat, ∃ s' : ByteArray, ∃ f' : Nat, k ≤ n ∧ i = .int .i64 ((n : Int) - 1 - (k : Int)) ∧ s' = bs (B.putL l f (v / B.P2 (n - k)) k) ∧ f' = B.putF l.length f k ∧
    Box wr w.heap.size (.string s') (.int .i64 (f' : Int)) ∧ Box wr (w.heap.size + 1) (.string ⟨#[]⟩) (.int .i64 0) ∧ Below w.heap.size w wr
end Go.Proofs.Ythlnjipefeglpaa
namespace Go.Proofs.Ythlnjipefeglpaa
open Go.RowKit
set_option linter.unusedVariables false
def rlR (s : ByteArray) (v n : Nat) : Value := .tuple #[.agg #[.string (s ++ bs (B.le n v)), .int .i64 0], .bool true]
def RlRel (w : World) (s : ByteArray) (v n : Nat) (x i : Value) (wr : World) : Prop :=
  ∃ k : Nat, ∃ s' : ByteArray, k ≤ n ∧ i = .int .i64 (k : Int) ∧ x = .string s' ∧ s' = s ++ bs (B.le k v) ∧ Box wr (w.heap.size + 1) (.string ⟨#[]⟩) (.int .i64 0) ∧ Below w.heap.size w wr
end Go.Proofs.Ythlnjipefeglpaa
namespace Go.Proofs.Ythlnjipefeglpaa
open Go.RowKit
set_option linter.unusedVariables false
def RwRel (zs : List Int) (m i : Value) : Prop := ∃ k x : Nat, k ≤ zs.length ∧ i = .int .i64 k ∧ m = .int .i64 (x : Int) ∧ x = mxW (zs.take k) ∧ x ≤ 64
def RnRel (w : World) (fs : List (Nat × Nat)) (h : Nat) (l : List Int) (b0 b1 : Nat) (i : Value) (wr : World) : Prop :=
  ∃ k : Nat, k ≤ l.length ∧ i = .int .i64 k ∧ Blk wr b0 (wrA (fs ++ (F.nums h l).take (k + 1))) 97 ∧ Blk wr b1 #[.string ⟨#[]⟩, .int .i64 0] 97 ∧ Below w.heap.size w wr
end Go.Proofs.Ythlnjipefeglpaa
