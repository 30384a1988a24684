import Derived.Test.YtfaipbdkkkhacaaYB
import Derived.Test.YtfaipbdkkkhacaaYA
import Derived.BigRegion
import Derived.Test.YtfaipbdkkkhacaaYC
/- Layer 2: the number of the next bytes; the program's and the document's. -/
namespace Go.Proofs.Ytfaipbdkkkhacaa
open Go.RowKit
set_option linter.unusedVariables false

theorem quiet_same {P : Program} {f : FuncId} {args : Array Value} {w : World} {n : Nat} {v : Value}
    (h : Calls P f args (w.drewN n) fun e w' => e = .returned v ∧ w.drewN n = w') : Calls P f args (w.drewN n) fun e w'' => e = .returned v ∧ ∃ m, w'' = w.drewN m :=
  h.mono fun _ _ ⟨he, hm⟩ => ⟨he, n, hm.symm⟩
def LiRel (t : ByteArray) (v i : Value) : Prop := ∃ k x : Nat, k ≤ t.size ∧ i = .int .i64 k ∧ v = .int .i64 (x : Int) ∧ x = B.lv (t.data.toList.take k)
theorem or_shl (x k : Nat) (c : UInt8) (hk : k ≤ 3) (hx : x < B.P2 (8 * k)) : bits .or .i64 (x : Int) (wrap64 (wrap64 (c.toNat : Int) * 2 ^ (8 * k))) = ((x + c.toNat * B.P2 (8 * k) : Nat) : Int) := by
  have hc := c.toNat_lt
  have hp : B.P2 (8 * k) ≤ 16777216 := B.P2_le (b := 24) (by omega)
  have hm : c.toNat * B.P2 (8 * k) ≤ 256 * 16777216 := Nat.mul_le_mul (by omega) hp
  rw [P2_cast, i64_id (c.toNat : Int) (by omega) (by omega), show (c.toNat : Int) * (B.P2 (8 * k) : Int) = ((c.toNat * B.P2 (8 * k) : Nat) : Int) by push_cast; rfl, i64_id _ (by omega) (by omega)]
  have hj := nat_join (8 * k) (c.toNat * B.P2 (8 * k)) x (Nat.mul_mod_left _ _) hx
  rw [i64_or_nat _ _ (by omega) (by omega), Nat.or_comm, hj, Nat.add_comm]
def liR (s : ByteArray) (a n : Int) : Value := if 1 ≤ n ∧ n ≤ 4 then .tuple #[.int .i64 (B.lv (byB s a n).data.toList : Int), .agg #[.string (byS s a n), .int .i64 (byA s a n)], .int .i64 (byE s.size a n)] else errR 1
theorem byB_size (s : ByteArray) (a n : Int) (h : n ≤ 4) : (byB s a n).size ≤ 4 := by
  unfold byB
  split
  · rw [ByteArray.size_extract]; omega
  · exact Nat.zero_le _
end Go.Proofs.Ytfaipbdkkkhacaa
/- Layer 2: PutLittle. -/
namespace Go.Proofs.Ytfaipbdkkkhacaa
open Go.RowKit
set_option linter.unusedVariables false

def LitRel (w : World) (g : Nat) (s : ByteArray) (f : Int) (v t : Nat) (i : Value) (wr : World) : Prop :=
  ∃ k : Nat, k ≤ t ∧ i = .int .i64 k ∧ BRow wr g ((B.le t v).take k ++ List.replicate (t - k) 0) ∧ Box wr w.heap.size (.string s) (.int .i64 f) ∧ Box wr (w.heap.size + 1) (.string ⟨#[]⟩) (.int .i64 0) ∧ Below w.heap.size w wr
theorem le_full (t v : Nat) : (B.le t v).take t ++ List.replicate (t - t) (0 : UInt8) = B.le t v := by
  rw [Nat.sub_self, List.replicate_zero, List.append_nil, List.take_of_length_le (by rw [B.le_len]; omega)]
theorem le_step (g t V k : Nat) (w : World) (hk : k < t) (h : BRow w g ((B.le t V).take k ++ List.replicate (t - k) 0)) :
    BRow (w.setCell ⟨g, k, none⟩ (.int .u8 ((V : Int) / 2 ^ (8 * k) % 256))) g ((B.le t V).take (k + 1) ++ List.replicate (t - (k + 1)) 0) := by
  have hl := B.le_len t V
  have hk' : k < (B.le t V).length := by omega
  rw [← list_step (B.le t V) t k hl hk hk']
  have e : (V : Int) / 2 ^ (8 * k) % 256 = ((B.le t V)[k].toNat : Int) := by rw [B.le_get t V k hk hk', div_pow]; omega
  rw [e]
  exact h.set (by simp [hl]; omega) _
def ltR (s : ByteArray) (v n : Nat) : Value := .tuple #[.agg #[.string (s ++ bs (B.le n v)), .int .i64 0], .int .i64 0]
def ltOk (v n : Int) : Bool := decide (1 ≤ n) && decide (n ≤ 4) && decide (0 ≤ v) && decide (v.toNat < B.P2 (8 * n.toNat))
end Go.Proofs.Ytfaipbdkkkhacaa
/- Layer 2: the document's put of one bit. -/
namespace Go.Proofs.Ytfaipbdkkkhacaa
open Go.RowKit
set_option linter.unusedVariables false

theorem refput_post {Q : Ending → World → Prop} {a : Act} {W : World} {g : Nat} {x y : Value} (hbox : Box W g x y) (h : a.tmps[4]?.getD undef = .pointer (some ⟨g, 0, none⟩))
    (hd : a.defers = []) (hQ : Q (.returned (.agg #[x, y])) W) : bodyPost Try.prog Try.f80 Q Exit.ret a W :=
  bodyPost_ret (v := .agg #[x, y]) (by simp [results, Try.results80, go_sem, h, hbox.1, hbox.2.1]) hd hQ
theorem str_one (g : Nat) (x : Nat) (hx : x < 256) (W : World) (h : W.cell? ⟨g, 0, none⟩ = some (.int .u8 (x : Int))) : (convert 84 9 (.slice (some ⟨g, 0, none⟩) 1 1)).run Try.prog W = .ok (.string (bs [UInt8.ofNat x])) W := by
  have hl : ([UInt8.ofNat x] : List UInt8).length = 1 := rfl
  have := run_convert_bytes_back (P := Try.prog) W 84 9 5 ⟨g, 0, none⟩ 1 [UInt8.ofNat x] Try.underlying84 Try.underlying5 Try.underlying9 (fun j hj => by
    rw [hl] at hj
    obtain rfl : j = 0 := by omega
    have e : ([UInt8.ofNat x] : List UInt8)[0].toNat = x := B.ofNat_toNat x hx
    rw [e, ← h]; rfl)
  exact this
set_option maxHeartbeats 400000 in
theorem refput_zero (s : ByteArray) (b : Nat) (w : World) (hs : s.size ≤ 1099511627776) (hb : b < 2) :
    Calls Try.prog 80 #[.agg #[.string s, .int .i64 0], .int .i64 b] w fun e w' => e = .returned (.agg #[.string (bs (B.putL s.data.toList 0 b 1)), .int .i64 (B.putF s.size 0 1 : Int)]) ∧ Below w.heap.size w w' := by
  obtain ⟨e1, e2⟩ := B.putL_bit0 s.data.toList b hb
  rw [bytes_length] at e2
  rw [e1, e2, ← bs_append, bs_of]
  clear e1 e2
  obtain ⟨C, D, H⟩ := box2_now w (.string s) (.int .i64 0) (.string ⟨#[]⟩) (.int .i64 0) 87 87
  have hsz : (bs [UInt8.ofNat (128 * b)]).size ≤ 1 := by rw [bs_size]; simp
  go_enter Try.func80, Try.ntmps80
  go_upto_region 2 with (fail)
  generalize (w.alloc (.cells #[.string s, .int .i64 0] 87)).alloc (.cells #[.string ⟨#[]⟩, .int .i64 0] 87) = w1 at C D H ⊢
  have hconv := str_one w1.heap.size (128 * b) (by omega) (w1.alloc (.cells #[.int .u8 ((128 * b : Nat) : Int)] 5)) (by rw [World.cell?_alloc_new]; rfl)
  rw [show ((128 * b : Nat) : Int) = 128 * (b : Int) by omega] at hconv
  have H1 := Lib.hid (bq_alloc H (.cells #[.int .u8 (128 * (b : Int))] 5))
  have D1 := D.alloc (.cells #[.int .u8 (128 * (b : Int))] 5)
  generalize hW : w1.alloc (.cells #[.int .u8 (128 * (b : Int))] 5) = W at *
  have hal : (w1.alloc (.cells #[.int .u8 (128 * (b : Int))] 5)) = W := hW
  obtain ⟨c0, c1, f0, f1, cz⟩ := C
  obtain ⟨d0, d1, g0, g1, hz⟩ := D1
  clear H D hW
  generalize htl : bs [UInt8.ofNat (128 * b)] = tl at hconv hsz
  have HTL := Lib.hid htl
  clear htl
  go_wp2_with fail
  exact refput_post ((Box.set0 ⟨d0, d1, g0, g1, hz⟩ _).set1 _) rfl rfl ⟨by rw [HTL.out]; rfl, bq_set (bq_set H1.out _ (by simp) _) _ (by simp) _⟩
attribute [local go_sem ↓] Go.wp_at_zero Go.wp_at_succ
set_option maxHeartbeats 1000000 in
theorem refput_part (s : ByteArray) (b f m : Nat) (w : World) (hs : s.size ≤ 1099511627776) (hb : b < 2) (hf0 : 1 ≤ f) (hf : f ≤ 7) (hm : m < s.size) (hm2 : s.size ≤ m + 1) (hz0 : s[m].toNat % B.P2 f = 0) :
    Calls Try.prog 80 #[.agg #[.string s, .int .i64 f], .int .i64 b] w fun e w' => e = .returned (.agg #[.string (bs (B.putL s.data.toList f b 1)), .int .i64 (B.putF s.size f 1 : Int)]) ∧ Below w.heap.size w w' := by
  obtain ⟨e1, e2, e3⟩ := B.putL_bitf (s.data.toList.take m) s[m] f b hb hf0 hf hz0
  have hl : (s.data.toList.take m).length = m := by rw [List.length_take, bytes_length]; omega
  rw [hl, show m + 1 = s.size by omega] at e2
  rw [← split_last s m hm hm2] at e1
  rw [e1, e2, ← bs_append, ← bs_extract s m (by omega), show ((f - 1 : Nat) : Int) = (f : Int) - 1 by omega]
  clear e1 e2 hl
  have hff : ((f : Int) == 0) = false := by rw [beq_eq_false_iff_ne]; omega
  obtain ⟨y, hy⟩ : ∃ y, y = B.P2 (f - 1) := ⟨_, rfl⟩
  have hyb : y ≤ 64 := by rw [hy]; exact B.P2_le (b := 6) (by omega)
  have HP := fun w => power_any (f - 1) w (by omega)
  rw [show ((f - 1 : Nat) : Int) = (f : Int) - 1 by omega, ← hy] at HP
  rw [← hy] at e3 ⊢
  have HPW := Lib.hid HP
  clear HP hy hz0
  have hcb := s[m].toNat_lt
  obtain ⟨X, hX⟩ : ∃ X, X = s[m].toNat + b * y := ⟨_, rfl⟩
  have hXe : wrap64 (wrap64 (s[m].toNat : Int) + wrap64 ((b : Int) * (y : Int))) = (X : Int) := by
    have hby : b * y ≤ 64 := by
      rcases (show b = 0 ∨ b = 1 by omega) with rfl | rfl <;> omega
    rw [i64_id (s[m].toNat : Int) (by omega) (by omega), show (b : Int) * (y : Int) = ((b * y : Nat) : Int) by push_cast; rfl, i64_id ((b * y : Nat) : Int) (by omega) (by omega), i64_id _ (by omega) (by omega), hX]
    omega
  rw [← hX] at e3 ⊢
  have HXE := Lib.hid hXe
  clear hX hXe hcb
  have hsz : (bs [UInt8.ofNat X]).size ≤ 1 := by rw [bs_size]; simp
  have hsz2 : (s.extract 0 m).size ≤ 1099511627776 := by rw [ByteArray.size_extract]; omega
  have wr1 : IntKind.i64.wrap ((s.size : Int) - 1) = (m : Int) := by rw [i64_wrap _ (by omega) (by omega)]; omega
  have wr2 := i64_wrap ((f : Int) - 1) (by omega) (by omega)
  have b2 : (m : Int) < (s.size : Int) := by omega
  obtain ⟨C, D, H⟩ := box2_now w (.string s) (.int .i64 f) (.string ⟨#[]⟩) (.int .i64 0) 87 87
  go_enter Try.func80, Try.ntmps80
  go_upto_region 3 with (fail)
  generalize (w.alloc (.cells #[.string s, .int .i64 f] 87)).alloc (.cells #[.string ⟨#[]⟩, .int .i64 0] 87) = w1 at C D H ⊢
  obtain ⟨c0, c1, f0, f1, cz⟩ := C
  have HD := Lib.hid D
  have H1 := Lib.hid H
  clear D H
  go_quiet ((go_at_call 79; exact quiet_same (HPW.out _)))
  go_upto_region 4 with (fail)
  rw [HXE.out]
  have c0' : (w1.drewN nq).cell? ⟨w.heap.size, 0, none⟩ = some (.string s) := c0
  have c1' : (w1.drewN nq).cell? ⟨w.heap.size, 1, none⟩ = some (.int .i64 f) := c1
  have D1 := Box.drewN HD.out nq
  have H2 := Lib.hid (bq_drewN H1.out nq)
  clear c0 c1 f0 f1 cz HD H1
  generalize w1.drewN nq = w2 at c0' c1' D1 H2 ⊢
  obtain ⟨d0, d1, g0, g1, hz⟩ := D1
  have hconv := str_one w2.heap.size X e3
  have hX8 : IntKind.u8.wrap (X : Int) = (X : Int) := by rw [IntKind.wrap_u8]; omega
  have ne1 : ¬ w.heap.size + 1 = w2.heap.size := by omega
  have ne2 : ¬ w2.heap.size = w.heap.size + 1 := by omega
  have ne3 : ¬ w.heap.size = w2.heap.size := by omega
  have b3 : (m : Int) ≤ (s.size : Int) := by omega
  have b4 : m ≤ s.size := by omega
  generalize htl : bs [UInt8.ofNat X] = tl at hconv hsz
  have HTL := Lib.hid htl
  clear htl
  have lt1 : w.heap.size < w2.heap.size := by omega
  have hnl : ¬ 9223372036854775807 < m + tl.size := by omega
  go_region
  go_wp2
  exact refput_post ((((Box.set0 ⟨d0, d1, g0, g1, hz⟩ _).set1 _).alloc _).drew) rfl rfl ⟨by rw [HTL.out], bq_drew (bq_alloc (bq_set (bq_set H2.out _ (by simp) _) _ (by simp) _) _)⟩
theorem refput_any (s : ByteArray) (f b : Nat) (w : World) (hs : s.size ≤ 1099511627776) (hb : b < 2) (h : B.Snd s.data.toList f) :
    Calls Try.prog 80 #[.agg #[.string s, .int .i64 f], .int .i64 b] w fun e w' => e = .returned (.agg #[.string (bs (B.putL s.data.toList f b 1)), .int .i64 (B.putF s.size f 1 : Int)]) ∧ Below w.heap.size w w' := by
  by_cases h0 : f = 0
  · subst h0
    exact refput_zero s b w hs hb
  · obtain ⟨h1, h2, h3⟩ := h
    rw [bytes_length] at h2
    obtain ⟨m, hm⟩ : ∃ m, m + 1 = s.size := ⟨s.size - 1, by omega⟩
    have e := last_mod_bs s m (by omega) (by omega) f (by omega)
    exact refput_part s b f m w hs hb (by omega) (by omega) (by omega) (by omega) (by rw [← e]; exact h3)
end Go.Proofs.Ytfaipbdkkkhacaa
/- Layer 2: the document's PutPlain. -/
namespace Go.Proofs.Ytfaipbdkkkhacaa
open Go.RowKit
set_option linter.unusedVariables false

theorem refputplain_post {Q : Ending → World → Prop} {a : Act} {W : World} {g : Nat} {x y v : Value} (hbox : Box W g x y) (h6 : a.tmps[6]?.getD undef = .pointer (some ⟨g, 0, none⟩)) (h7 : a.tmps[7]?.getD undef = v)
    (hd : a.defers = []) (hQ : Q (.returned (.tuple #[.agg #[x, y], v])) W) : bodyPost Try.prog Try.f64 Q Exit.ret a W :=
  bodyPost_ret (v := .tuple #[.agg #[x, y], v]) (by simp [results, Try.results64, go_sem, h6, h7, hbox.1, hbox.2.1]) hd hQ
def errF : Value := .tuple #[.agg #[.string ⟨#[]⟩, .int .i64 0], .bool false]
def rpR (s : ByteArray) (f : Int) (v n : Nat) : Value := .tuple #[.agg #[.string (bs (B.putL s.data.toList (nf s f) v n)), .int .i64 (B.putF s.size (nf s f) n : Int)], .bool true]
theorem refputplain_bad (s : ByteArray) (f v n : Int) (w : World) (h : n < 0 ∨ 31 < n ∨ v < 0) :
    Calls Try.prog 64 #[.agg #[.string s, .int .i64 f], .int .i64 v, .int .i64 n] w fun e w' => e = .returned errF ∧ Below w.heap.size w w' := by
  have HH := Lib.hid (box2_now w (.string s) (.int .i64 f) (.string ⟨#[]⟩) (.int .i64 0) 87 87).2.2
  rcases h with h | h
  · go_enter Try.func64, Try.ntmps64
    go_wp2_with fail
    exact bodyPost_ret (v := errF) (by simp [results, Try.results64, go_sem, errF]) rfl ⟨rfl, HH.out⟩
  · by_cases h0 : n < 0
    · go_enter Try.func64, Try.ntmps64
      go_wp2_with fail
      exact bodyPost_ret (v := errF) (by simp [results, Try.results64, go_sem, errF]) rfl ⟨rfl, HH.out⟩
    · by_cases h1 : 31 < n
      · go_enter Try.func64, Try.ntmps64
        go_wp2_with fail
        exact bodyPost_ret (v := errF) (by simp [results, Try.results64, go_sem, errF]) rfl ⟨rfl, HH.out⟩
      · have hv : v < 0 := by omega
        clear h
        go_enter Try.func64, Try.ntmps64
        go_wp2_with fail
        exact bodyPost_ret (v := errF) (by simp [results, Try.results64, go_sem, errF]) rfl ⟨rfl, HH.out⟩
theorem refputplain_over (s : ByteArray) (f : Int) (v n : Nat) (w : World) (hn : n ≤ 31) (hv : B.P2 n ≤ v) :
    Calls Try.prog 64 #[.agg #[.string s, .int .i64 f], .int .i64 v, .int .i64 n] w fun e w' => e = .returned errF ∧ Below w.heap.size w w' := by
  have HH := Lib.hid (box2_now w (.string s) (.int .i64 f) (.string ⟨#[]⟩) (.int .i64 0) 87 87).2.2
  have HP := Lib.hid (fun w => power_any n w (by omega))
  generalize B.P2 n = y at *
  go_enter Try.func64, Try.ntmps64
  go_wp2_with (go_at_call 79; refine (HP.out _).mono ?_; rintro e w' ⟨rfl, rfl⟩)
  exact bodyPost_ret (v := errF) (by simp [results, Try.results64, go_sem, errF]) rfl ⟨rfl, HH.out⟩
/-- behind the first k bits -/
def RpRel (w : World) (l : List UInt8) (f v n : Nat) (i : Value) (wr : World) : Prop :=
  ∃ k : Nat, ∃ s' : ByteArray, ∃ f' : Nat, k ≤ n ∧ i = .int .i64 ((n : Int) - 1 - (k : Int)) ∧ s' = bs (B.putL l f (v / B.P2 (n - k)) k) ∧ f' = B.putF l.length f k ∧
    Box wr w.heap.size (.string s') (.int .i64 (f' : Int)) ∧ Box wr (w.heap.size + 1) (.string ⟨#[]⟩) (.int .i64 0) ∧ Below w.heap.size w wr
theorem bit_step (l : List UInt8) (f v n k : Nat) (hk : k < n) (hv : v < B.P2 n) (hf : f ≤ 8 * l.length) :
    B.putL (B.putL l f (v / B.P2 (n - k)) k) (B.putF l.length f k) (v / B.P2 (n - 1 - k) % 2) 1 = B.putL l f (v / B.P2 (n - (k + 1))) (k + 1) := by
  have hu : v / B.P2 (n - k) < B.P2 k := B.div_lt (by rw [show n - k + k = n by omega]; exact hv)
  rw [B.putL_comp l f _ k (v / B.P2 (n - 1 - k) % 2) 1 hf hu (show _ < 2 from Nat.mod_lt _ (by omega))]
  congr 1
  have e : v / B.P2 (n - k) = v / B.P2 (n - 1 - k) / 2 := by rw [half_div, show n - 1 - k + 1 = n - k by omega]
  rw [e, show n - (k + 1) = n - 1 - k by omega]
  show v / B.P2 (n - 1 - k) / 2 * 2 + v / B.P2 (n - 1 - k) % 2 = _
  omega
theorem bit_snd (l : List UInt8) (f v n k : Nat) (hk : k ≤ n) (hv : v < B.P2 n) (hf : f ≤ 8 * l.length) : B.Snd (B.putL l f (v / B.P2 (n - k)) k) (B.putF l.length f k) :=
  B.putL_snd l f _ k hf (B.div_lt (by rw [show n - k + k = n by omega]; exact hv))
theorem last_val (c : UInt8) (y : Nat) : (wrap64 (c.toNat : Int)).tmod (y : Int) = ((c.toNat % y : Nat) : Int) := by
  have hc := c.toNat_lt
  rw [i64_id (c.toNat : Int) (by omega) (by omega), Int.tmod_eq_emod_of_nonneg (by omega)]
  push_cast
  rfl
theorem bit_val (v y : Nat) (hv : v < 2147483648) : ((v / y % 2 : Nat) : Int) = (wrap64 ((v : Int) / (y : Int))).tmod 2 := by
  have hdv : v / y ≤ v := Nat.div_le_self _ _
  rw [show (v : Int) / (y : Int) = ((v / y : Nat) : Int) by push_cast; rfl]
  generalize v / y = d at *
  rw [i64_id (d : Int) (by omega) (by omega), Int.tmod_eq_emod_of_nonneg (by omega)]
  omega
set_option maxHeartbeats 2000000 in
theorem refputplain_neg (s : ByteArray) (f : Int) (v n : Nat) (w : World) (hs : s.size ≤ 1000000) (hn : n ≤ 31) (hv : v < B.P2 n) (hf : f < 0) (hnf : nf s f = 0) :
    Calls Try.prog 64 #[.agg #[.string s, .int .i64 f], .int .i64 v, .int .i64 n] w fun e w' => e = .returned (rpR s f v n) ∧ Below w.heap.size w w' := by
  have HP := Lib.hid (fun w => power_any n w (by omega))
  have HV := Lib.hid hv
  have hv31 : v < 2147483648 := Nat.lt_of_lt_of_le hv (B.P2_le (b := 31) hn)
  obtain ⟨C, D, H⟩ := box2_now w (.string s) (.int .i64 f) (.string ⟨#[]⟩) (.int .i64 0) 87 87
  have fb1 : decide (f < 0) = true := by simp; omega
  have HNF := Lib.hid hnf
  have p1 : decide ((n : Int) < 0) = false := by simp
  have p2 : decide (31 < (n : Int)) = false := by simp; omega
  have p3 : decide ((v : Int) < 0) = false := by simp
  have p4 : decide (B.P2 n ≤ v) = false := by simp; omega
  clear hnf

  go_enter Try.func64, Try.ntmps64
  go_upto_region 3 with (go_at_call 79; refine (HP.out _).mono ?_; rintro e w' ⟨rfl, rfl⟩)
  generalize (w.alloc (.cells #[.string s, .int .i64 f] 87)).alloc (.cells #[.string ⟨#[]⟩, .int .i64 0] 87) = w1 at C D H ⊢
  have C1 := Lib.hid (Box.set1 (Box.drewN C 1) (.int .i64 0))
  obtain ⟨c0, c1, f0, f1, cz⟩ := C
  have HD := Lib.hid D
  have H1 := Lib.hid H
  clear D H
  go_quiet ((fail))
  go_upto_region 5 with (fail)
  have C2 := Lib.hid (Box.set1 (Box.drewN ⟨c0, c1, f0, f1, cz⟩ nq) (.int .i64 0))
  have D2 := Lib.hid (Box.far (HD.out.drewN nq) (a := ⟨w.heap.size, 1, none⟩) (by simp) (.int .i64 0))
  have H2 := Lib.hid (bq_set (bq_drewN H1.out nq) ⟨w.heap.size, 1, none⟩ (by simp) (.int .i64 0))
  clear C1 c0 c1 f0 f1 cz HD H1
  generalize (w1.drewN nq).setCell ⟨w.heap.size, 1, none⟩ (.int .i64 0) = W at C2 D2 H2 ⊢
  have hloop : 0 ≤ 8 * s.data.toList.length := Nat.zero_le _
  have HF := Lib.hid hloop
  clear hloop
  go_wp2_with fail
  go_loopw [8] (fun i wr => RpRel w s.data.toList 0 v n i wr) (fun i _ => (intOf i + 1).toNat)
  case atStart => exact ⟨0, s, 0, by omega, by simp, by rw [Nat.sub_zero, Nat.div_eq_of_lt HV.out, B.putL_nil _ _ (show B.Snd s.data.toList 0 from ⟨by omega, by omega, by rw [B.P2_zero, Nat.mod_one]⟩), bs_of], by rw [B.putF_nil _ _ (show B.Snd s.data.toList 0 from ⟨by omega, by omega, by rw [B.P2_zero, Nat.mod_one]⟩).1 HF.out], C2.out, D2.out, H2.out⟩
  case round =>
    obtain ⟨k, s', f', hk, rfl, hs', hf', hc, hd, hbel⟩ := hrel
    have hsz : s'.size ≤ 1099511627776 := by rw [hs', bs_size, B.putL_len]; unfold B.putN; rw [bytes_length]; omega
    by_cases hlt : k < n
    · have hsnd : B.Snd s'.data.toList f' := by rw [hs', hf', bs_data]; exact bit_snd _ _ _ _ _ (by omega) HV.out HF.out
      have hstep := bit_step s.data.toList 0 v n k hlt HV.out HF.out
      rw [← bs_data (B.putL s.data.toList 0 (v / B.P2 (n - k)) k), ← hs', ← hf'] at hstep
      have hpf : B.putF s'.size f' 1 = B.putF s.data.toList.length 0 (k + 1) := by
        rw [hs', bs_size, B.putL_len, hf', B.putF_comp _ _ _ _ HF.out]
      have HPW := fun w => power_any (n - 1 - k) w (by omega)
      rw [show ((n - 1 - k : Nat) : Int) = (n : Int) - 1 - (k : Int) by omega] at HPW
      have hpos := B.P2_pos (n - 1 - k)
      have hpb : B.P2 (n - 1 - k) ≤ 2147483648 := B.P2_le (b := 31) (by omega)
      have hbl : v / B.P2 (n - 1 - k) % 2 < 2 := Nat.mod_lt _ (by omega)
      have HPUT := fun w => refput_any s' f' (v / B.P2 (n - 1 - k) % 2) w hsz hbl hsnd
      have HST := Lib.hid (And.intro hstep hpf)
      generalize B.P2 (n - 1 - k) = y at *
      have hq := bit_val v y hv31
      rw [hq] at HPUT
      have HPUT2 := Lib.hid HPUT
      have yz : ((y : Int) == 0) = false := by rw [beq_eq_false_iff_ne]; omega
      have HPW2 := Lib.hid HPW
      obtain ⟨c0, c1, f0, f1, cz⟩ := hc
      have HD := Lib.hid hd
      have HBEL := Lib.hid hbel
      clear hs' hf' hsnd hstep hpf HPW hq hd hbel HPUT hbl
      go_wp2_with fail
      go_region_with (first | (go_at_call 79; ((with_reducible refine (HPW2.out _).mono ?_); rintro e w' ⟨rfl, rfl⟩)) | (go_at_call 80; ((with_reducible refine (HPUT2.out _).mono ?_); rintro e w2 ⟨rfl, hb2⟩; have HB2 := Lib.hid hb2; obtain ⟨q0, q1, r0, r1, qz⟩ := Box.keep (Box.drewN ⟨c0, c1, f0, f1, cz⟩ 1) hb2; clear hb2)))
      all_goals
        go_wp2
        go_roundw
        case rel =>
          exact ⟨k + 1, _, _, by omega, by go_num, congrArg bs HST.out.1, HST.out.2, (Box.set0 ⟨q0, q1, r0, r1, qz⟩ _).set1 _, ((HD.out.drew.keep HB2.out).far (by simp) _).far (by simp) _, bq_set (bq_set (bq_trans (bq_drew HBEL.out) HB2.out) _ (by simp) _) _ (by simp) _⟩
        case measure => simp [intOf]; omega
    · obtain rfl : k = n := by omega
      have HS' : Hid (s' = bs (B.putL s.data.toList 0 v k)) := Lib.hid (by rw [hs', Nat.sub_self, B.P2_zero, Nat.div_one])
      have HF' : Hid (f' = B.putF s.size 0 k) := Lib.hid (by rw [hf', bytes_length])
      obtain ⟨c0, c1, f0, f1, cz⟩ := hc
      obtain ⟨d0, d1, g0, g1, hz⟩ := hd
      have HBEL := Lib.hid hbel
      clear hs' hf' hbel
      go_wp2
      exact refputplain_post ((Box.set0 ⟨d0, d1, g0, g1, hz⟩ _).set1 _) rfl rfl rfl ⟨by rw [rpR, HNF.out, HS'.out, HF'.out]; rfl, bq_set (bq_set HBEL.out _ (by simp) _) _ (by simp) _⟩
set_option maxHeartbeats 2000000 in
theorem refputplain_big (s : ByteArray) (f : Int) (v n : Nat) (w : World) (hs : s.size ≤ 1000000) (hn : n ≤ 31) (hv : v < B.P2 n) (hf : 7 < f) (hnf : nf s f = 0) :
    Calls Try.prog 64 #[.agg #[.string s, .int .i64 f], .int .i64 v, .int .i64 n] w fun e w' => e = .returned (rpR s f v n) ∧ Below w.heap.size w w' := by
  have HP := Lib.hid (fun w => power_any n w (by omega))
  have HV := Lib.hid hv
  have hv31 : v < 2147483648 := Nat.lt_of_lt_of_le hv (B.P2_le (b := 31) hn)
  obtain ⟨C, D, H⟩ := box2_now w (.string s) (.int .i64 f) (.string ⟨#[]⟩) (.int .i64 0) 87 87
  have fb1 : decide (f < 0) = false := by simp; omega
  have fb2 : decide (7 < f) = true := by simp; omega
  have HNF := Lib.hid hnf
  have p1 : decide ((n : Int) < 0) = false := by simp
  have p2 : decide (31 < (n : Int)) = false := by simp; omega
  have p3 : decide ((v : Int) < 0) = false := by simp
  have p4 : decide (B.P2 n ≤ v) = false := by simp; omega
  clear hnf

  go_enter Try.func64, Try.ntmps64
  go_upto_region 3 with (go_at_call 79; refine (HP.out _).mono ?_; rintro e w' ⟨rfl, rfl⟩)
  generalize (w.alloc (.cells #[.string s, .int .i64 f] 87)).alloc (.cells #[.string ⟨#[]⟩, .int .i64 0] 87) = w1 at C D H ⊢
  have C1 := Lib.hid (Box.set1 (Box.drewN C 1) (.int .i64 0))
  obtain ⟨c0, c1, f0, f1, cz⟩ := C
  have HD := Lib.hid D
  have H1 := Lib.hid H
  clear D H
  go_quiet ((fail))
  go_upto_region 5 with (fail)
  have C2 := Lib.hid (Box.set1 (Box.drewN ⟨c0, c1, f0, f1, cz⟩ nq) (.int .i64 0))
  have D2 := Lib.hid (Box.far (HD.out.drewN nq) (a := ⟨w.heap.size, 1, none⟩) (by simp) (.int .i64 0))
  have H2 := Lib.hid (bq_set (bq_drewN H1.out nq) ⟨w.heap.size, 1, none⟩ (by simp) (.int .i64 0))
  clear C1 c0 c1 f0 f1 cz HD H1
  generalize (w1.drewN nq).setCell ⟨w.heap.size, 1, none⟩ (.int .i64 0) = W at C2 D2 H2 ⊢
  have hloop : 0 ≤ 8 * s.data.toList.length := Nat.zero_le _
  have HF := Lib.hid hloop
  clear hloop
  go_wp2_with fail
  go_loopw [8] (fun i wr => RpRel w s.data.toList 0 v n i wr) (fun i _ => (intOf i + 1).toNat)
  case atStart => exact ⟨0, s, 0, by omega, by simp, by rw [Nat.sub_zero, Nat.div_eq_of_lt HV.out, B.putL_nil _ _ (show B.Snd s.data.toList 0 from ⟨by omega, by omega, by rw [B.P2_zero, Nat.mod_one]⟩), bs_of], by rw [B.putF_nil _ _ (show B.Snd s.data.toList 0 from ⟨by omega, by omega, by rw [B.P2_zero, Nat.mod_one]⟩).1 HF.out], C2.out, D2.out, H2.out⟩
  case round =>
    obtain ⟨k, s', f', hk, rfl, hs', hf', hc, hd, hbel⟩ := hrel
    have hsz : s'.size ≤ 1099511627776 := by rw [hs', bs_size, B.putL_len]; unfold B.putN; rw [bytes_length]; omega
    by_cases hlt : k < n
    · have hsnd : B.Snd s'.data.toList f' := by rw [hs', hf', bs_data]; exact bit_snd _ _ _ _ _ (by omega) HV.out HF.out
      have hstep := bit_step s.data.toList 0 v n k hlt HV.out HF.out
      rw [← bs_data (B.putL s.data.toList 0 (v / B.P2 (n - k)) k), ← hs', ← hf'] at hstep
      have hpf : B.putF s'.size f' 1 = B.putF s.data.toList.length 0 (k + 1) := by
        rw [hs', bs_size, B.putL_len, hf', B.putF_comp _ _ _ _ HF.out]
      have HPW := fun w => power_any (n - 1 - k) w (by omega)
      rw [show ((n - 1 - k : Nat) : Int) = (n : Int) - 1 - (k : Int) by omega] at HPW
      have hpos := B.P2_pos (n - 1 - k)
      have hpb : B.P2 (n - 1 - k) ≤ 2147483648 := B.P2_le (b := 31) (by omega)
      have hbl : v / B.P2 (n - 1 - k) % 2 < 2 := Nat.mod_lt _ (by omega)
      have HPUT := fun w => refput_any s' f' (v / B.P2 (n - 1 - k) % 2) w hsz hbl hsnd
      have HST := Lib.hid (And.intro hstep hpf)
      generalize B.P2 (n - 1 - k) = y at *
      have hq := bit_val v y hv31
      rw [hq] at HPUT
      have HPUT2 := Lib.hid HPUT
      have yz : ((y : Int) == 0) = false := by rw [beq_eq_false_iff_ne]; omega
      have HPW2 := Lib.hid HPW
      obtain ⟨c0, c1, f0, f1, cz⟩ := hc
      have HD := Lib.hid hd
      have HBEL := Lib.hid hbel
      clear hs' hf' hsnd hstep hpf HPW hq hd hbel HPUT hbl
      go_wp2_with fail
      go_region_with (first | (go_at_call 79; ((with_reducible refine (HPW2.out _).mono ?_); rintro e w' ⟨rfl, rfl⟩)) | (go_at_call 80; ((with_reducible refine (HPUT2.out _).mono ?_); rintro e w2 ⟨rfl, hb2⟩; have HB2 := Lib.hid hb2; obtain ⟨q0, q1, r0, r1, qz⟩ := Box.keep (Box.drewN ⟨c0, c1, f0, f1, cz⟩ 1) hb2; clear hb2)))
      all_goals
        go_wp2
        go_roundw
        case rel =>
          exact ⟨k + 1, _, _, by omega, by go_num, congrArg bs HST.out.1, HST.out.2, (Box.set0 ⟨q0, q1, r0, r1, qz⟩ _).set1 _, ((HD.out.drew.keep HB2.out).far (by simp) _).far (by simp) _, bq_set (bq_set (bq_trans (bq_drew HBEL.out) HB2.out) _ (by simp) _) _ (by simp) _⟩
        case measure => simp [intOf]; omega
    · obtain rfl : k = n := by omega
      have HS' : Hid (s' = bs (B.putL s.data.toList 0 v k)) := Lib.hid (by rw [hs', Nat.sub_self, B.P2_zero, Nat.div_one])
      have HF' : Hid (f' = B.putF s.size 0 k) := Lib.hid (by rw [hf', bytes_length])
      obtain ⟨c0, c1, f0, f1, cz⟩ := hc
      obtain ⟨d0, d1, g0, g1, hz⟩ := hd
      have HBEL := Lib.hid hbel
      clear hs' hf' hbel
      go_wp2
      exact refputplain_post ((Box.set0 ⟨d0, d1, g0, g1, hz⟩ _).set1 _) rfl rfl rfl ⟨by rw [rpR, HNF.out, HS'.out, HF'.out]; rfl, bq_set (bq_set HBEL.out _ (by simp) _) _ (by simp) _⟩
set_option maxHeartbeats 2000000 in
theorem refputplain_empty (s : ByteArray) (f : Int) (v n : Nat) (w : World) (hs : s.size ≤ 1000000) (hn : n ≤ 31) (hv : v < B.P2 n) (hf : 0 ≤ f) (hf7 : f ≤ 7) (hz : s.size = 0) (hnf : nf s f = 0) :
    Calls Try.prog 64 #[.agg #[.string s, .int .i64 f], .int .i64 v, .int .i64 n] w fun e w' => e = .returned (rpR s f v n) ∧ Below w.heap.size w w' := by
  have HP := Lib.hid (fun w => power_any n w (by omega))
  have HV := Lib.hid hv
  have hv31 : v < 2147483648 := Nat.lt_of_lt_of_le hv (B.P2_le (b := 31) hn)
  obtain ⟨C, D, H⟩ := box2_now w (.string s) (.int .i64 f) (.string ⟨#[]⟩) (.int .i64 0) 87 87
  have fb1 : decide (f < 0) = false := by simp; omega
  have fb2 : decide (7 < f) = false := by simp; omega
  have fb3 : ((s.size : Int) == 0) = true := by rw [beq_iff_eq]; omega
  have HZ := Lib.hid hz
  clear hz
  have HNF := Lib.hid hnf
  have p1 : decide ((n : Int) < 0) = false := by simp
  have p2 : decide (31 < (n : Int)) = false := by simp; omega
  have p3 : decide ((v : Int) < 0) = false := by simp
  have p4 : decide (B.P2 n ≤ v) = false := by simp; omega
  clear hnf

  go_enter Try.func64, Try.ntmps64
  go_upto_region 3 with (go_at_call 79; refine (HP.out _).mono ?_; rintro e w' ⟨rfl, rfl⟩)
  generalize (w.alloc (.cells #[.string s, .int .i64 f] 87)).alloc (.cells #[.string ⟨#[]⟩, .int .i64 0] 87) = w1 at C D H ⊢
  have C1 := Lib.hid (Box.set1 (Box.drewN C 1) (.int .i64 0))
  obtain ⟨c0, c1, f0, f1, cz⟩ := C
  have HD := Lib.hid D
  have H1 := Lib.hid H
  clear D H
  go_quiet ((fail))
  go_upto_region 5 with (fail)
  have C2 := Lib.hid (Box.set1 (Box.drewN ⟨c0, c1, f0, f1, cz⟩ nq) (.int .i64 0))
  have D2 := Lib.hid (Box.far (HD.out.drewN nq) (a := ⟨w.heap.size, 1, none⟩) (by simp) (.int .i64 0))
  have H2 := Lib.hid (bq_set (bq_drewN H1.out nq) ⟨w.heap.size, 1, none⟩ (by simp) (.int .i64 0))
  clear C1 c0 c1 f0 f1 cz HD H1
  generalize (w1.drewN nq).setCell ⟨w.heap.size, 1, none⟩ (.int .i64 0) = W at C2 D2 H2 ⊢
  have hloop : 0 ≤ 8 * s.data.toList.length := Nat.zero_le _
  have HF := Lib.hid hloop
  clear hloop
  go_wp2_with fail
  go_loopw [8] (fun i wr => RpRel w s.data.toList 0 v n i wr) (fun i _ => (intOf i + 1).toNat)
  case atStart => exact ⟨0, s, 0, by omega, by simp, by rw [Nat.sub_zero, Nat.div_eq_of_lt HV.out, B.putL_nil _ _ (show B.Snd s.data.toList 0 from ⟨by omega, by omega, by rw [B.P2_zero, Nat.mod_one]⟩), bs_of], by rw [B.putF_nil _ _ (show B.Snd s.data.toList 0 from ⟨by omega, by omega, by rw [B.P2_zero, Nat.mod_one]⟩).1 HF.out], C2.out, D2.out, H2.out⟩
  case round =>
    obtain ⟨k, s', f', hk, rfl, hs', hf', hc, hd, hbel⟩ := hrel
    have hsz : s'.size ≤ 1099511627776 := by rw [hs', bs_size, B.putL_len]; unfold B.putN; rw [bytes_length]; omega
    by_cases hlt : k < n
    · have hsnd : B.Snd s'.data.toList f' := by rw [hs', hf', bs_data]; exact bit_snd _ _ _ _ _ (by omega) HV.out HF.out
      have hstep := bit_step s.data.toList 0 v n k hlt HV.out HF.out
      rw [← bs_data (B.putL s.data.toList 0 (v / B.P2 (n - k)) k), ← hs', ← hf'] at hstep
      have hpf : B.putF s'.size f' 1 = B.putF s.data.toList.length 0 (k + 1) := by
        rw [hs', bs_size, B.putL_len, hf', B.putF_comp _ _ _ _ HF.out]
      have HPW := fun w => power_any (n - 1 - k) w (by omega)
      rw [show ((n - 1 - k : Nat) : Int) = (n : Int) - 1 - (k : Int) by omega] at HPW
      have hpos := B.P2_pos (n - 1 - k)
      have hpb : B.P2 (n - 1 - k) ≤ 2147483648 := B.P2_le (b := 31) (by omega)
      have hbl : v / B.P2 (n - 1 - k) % 2 < 2 := Nat.mod_lt _ (by omega)
      have HPUT := fun w => refput_any s' f' (v / B.P2 (n - 1 - k) % 2) w hsz hbl hsnd
      have HST := Lib.hid (And.intro hstep hpf)
      generalize B.P2 (n - 1 - k) = y at *
      have hq := bit_val v y hv31
      rw [hq] at HPUT
      have HPUT2 := Lib.hid HPUT
      have yz : ((y : Int) == 0) = false := by rw [beq_eq_false_iff_ne]; omega
      have HPW2 := Lib.hid HPW
      obtain ⟨c0, c1, f0, f1, cz⟩ := hc
      have HD := Lib.hid hd
      have HBEL := Lib.hid hbel
      clear hs' hf' hsnd hstep hpf HPW hq hd hbel HPUT hbl
      go_wp2_with fail
      go_region_with (first | (go_at_call 79; ((with_reducible refine (HPW2.out _).mono ?_); rintro e w' ⟨rfl, rfl⟩)) | (go_at_call 80; ((with_reducible refine (HPUT2.out _).mono ?_); rintro e w2 ⟨rfl, hb2⟩; have HB2 := Lib.hid hb2; obtain ⟨q0, q1, r0, r1, qz⟩ := Box.keep (Box.drewN ⟨c0, c1, f0, f1, cz⟩ 1) hb2; clear hb2)))
      all_goals
        go_wp2
        go_roundw
        case rel =>
          exact ⟨k + 1, _, _, by omega, by go_num, congrArg bs HST.out.1, HST.out.2, (Box.set0 ⟨q0, q1, r0, r1, qz⟩ _).set1 _, ((HD.out.drew.keep HB2.out).far (by simp) _).far (by simp) _, bq_set (bq_set (bq_trans (bq_drew HBEL.out) HB2.out) _ (by simp) _) _ (by simp) _⟩
        case measure => simp [intOf]; omega
    · obtain rfl : k = n := by omega
      have HS' : Hid (s' = bs (B.putL s.data.toList 0 v k)) := Lib.hid (by rw [hs', Nat.sub_self, B.P2_zero, Nat.div_one])
      have HF' : Hid (f' = B.putF s.size 0 k) := Lib.hid (by rw [hf', bytes_length])
      obtain ⟨c0, c1, f0, f1, cz⟩ := hc
      obtain ⟨d0, d1, g0, g1, hz⟩ := hd
      have HBEL := Lib.hid hbel
      clear hs' hf' hbel
      go_wp2
      exact refputplain_post ((Box.set0 ⟨d0, d1, g0, g1, hz⟩ _).set1 _) rfl rfl rfl ⟨by rw [rpR, HNF.out, HS'.out, HF'.out]; rfl, bq_set (bq_set HBEL.out _ (by simp) _) _ (by simp) _⟩
set_option maxHeartbeats 2000000 in
theorem refputplain_loose (s : ByteArray) (f : Nat) (v n : Nat) (w : World) (hs : s.size ≤ 1000000) (hn : n ≤ 31) (hv : v < B.P2 n) (m : Nat) (hf7 : f ≤ 7) (hm : m < s.size) (hm2 : s.size ≤ m + 1) (hl : ¬ s[m].toNat % B.P2 f = 0) (hnf : nf s f = 0) :
    Calls Try.prog 64 #[.agg #[.string s, .int .i64 f], .int .i64 v, .int .i64 n] w fun e w' => e = .returned (rpR s f v n) ∧ Below w.heap.size w w' := by
  have HP := Lib.hid (fun w => power_any n w (by omega))
  have HV := Lib.hid hv
  have hv31 : v < 2147483648 := Nat.lt_of_lt_of_le hv (B.P2_le (b := 31) hn)
  obtain ⟨C, D, H⟩ := box2_now w (.string s) (.int .i64 f) (.string ⟨#[]⟩) (.int .i64 0) 87 87
  have fb1 : decide ((f : Int) < 0) = false := by simp
  have fb2 : decide (7 < (f : Int)) = false := by simp; omega
  have fb3 : ((s.size : Int) == 0) = false := by rw [beq_eq_false_iff_ne]; omega
  have wr1 : IntKind.i64.wrap ((s.size : Int) - 1) = (m : Int) := by rw [i64_wrap _ (by omega) (by omega)]; omega
  have b2 : (m : Int) < (s.size : Int) := by omega
  have HPF := Lib.hid (fun w => power_any f w (by omega))
  have hyp := B.P2_pos f
  have hlz : ((B.P2 f : Int) == 0) = false := by rw [beq_eq_false_iff_ne]; omega
  have hlb : ((wrap64 (s[m].toNat : Int)).tmod (B.P2 f : Int) != 0) = true := by rw [last_val]; simp; omega
  clear hl
  have HNF := Lib.hid hnf
  have p1 : decide ((n : Int) < 0) = false := by simp
  have p2 : decide (31 < (n : Int)) = false := by simp; omega
  have p3 : decide ((v : Int) < 0) = false := by simp
  have p4 : decide (B.P2 n ≤ v) = false := by simp; omega
  clear hnf

  go_enter Try.func64, Try.ntmps64
  go_upto_region 3 with (go_at_call 79; refine (HP.out _).mono ?_; rintro e w' ⟨rfl, rfl⟩)
  generalize (w.alloc (.cells #[.string s, .int .i64 f] 87)).alloc (.cells #[.string ⟨#[]⟩, .int .i64 0] 87) = w1 at C D H ⊢
  have C1 := Lib.hid (Box.set1 (Box.drewN C 1) (.int .i64 0))
  obtain ⟨c0, c1, f0, f1, cz⟩ := C
  have HD := Lib.hid D
  have H1 := Lib.hid H
  clear D H
  go_quiet ((go_at_call 79; exact quiet_same (HPF.out _)))
  go_upto_region 5 with (fail)
  have C2 := Lib.hid (Box.set1 (Box.drewN ⟨c0, c1, f0, f1, cz⟩ nq) (.int .i64 0))
  have D2 := Lib.hid (Box.far (HD.out.drewN nq) (a := ⟨w.heap.size, 1, none⟩) (by simp) (.int .i64 0))
  have H2 := Lib.hid (bq_set (bq_drewN H1.out nq) ⟨w.heap.size, 1, none⟩ (by simp) (.int .i64 0))
  clear C1 c0 c1 f0 f1 cz HD H1
  generalize (w1.drewN nq).setCell ⟨w.heap.size, 1, none⟩ (.int .i64 0) = W at C2 D2 H2 ⊢
  have hloop : 0 ≤ 8 * s.data.toList.length := Nat.zero_le _
  have HF := Lib.hid hloop
  clear hloop
  go_wp2_with fail
  go_loopw [8] (fun i wr => RpRel w s.data.toList 0 v n i wr) (fun i _ => (intOf i + 1).toNat)
  case atStart => exact ⟨0, s, 0, by omega, by simp, by rw [Nat.sub_zero, Nat.div_eq_of_lt HV.out, B.putL_nil _ _ (show B.Snd s.data.toList 0 from ⟨by omega, by omega, by rw [B.P2_zero, Nat.mod_one]⟩), bs_of], by rw [B.putF_nil _ _ (show B.Snd s.data.toList 0 from ⟨by omega, by omega, by rw [B.P2_zero, Nat.mod_one]⟩).1 HF.out], C2.out, D2.out, H2.out⟩
  case round =>
    obtain ⟨k, s', f', hk, rfl, hs', hf', hc, hd, hbel⟩ := hrel
    have hsz : s'.size ≤ 1099511627776 := by rw [hs', bs_size, B.putL_len]; unfold B.putN; rw [bytes_length]; omega
    by_cases hlt : k < n
    · have hsnd : B.Snd s'.data.toList f' := by rw [hs', hf', bs_data]; exact bit_snd _ _ _ _ _ (by omega) HV.out HF.out
      have hstep := bit_step s.data.toList 0 v n k hlt HV.out HF.out
      rw [← bs_data (B.putL s.data.toList 0 (v / B.P2 (n - k)) k), ← hs', ← hf'] at hstep
      have hpf : B.putF s'.size f' 1 = B.putF s.data.toList.length 0 (k + 1) := by
        rw [hs', bs_size, B.putL_len, hf', B.putF_comp _ _ _ _ HF.out]
      have HPW := fun w => power_any (n - 1 - k) w (by omega)
      rw [show ((n - 1 - k : Nat) : Int) = (n : Int) - 1 - (k : Int) by omega] at HPW
      have hpos := B.P2_pos (n - 1 - k)
      have hpb : B.P2 (n - 1 - k) ≤ 2147483648 := B.P2_le (b := 31) (by omega)
      have hbl : v / B.P2 (n - 1 - k) % 2 < 2 := Nat.mod_lt _ (by omega)
      have HPUT := fun w => refput_any s' f' (v / B.P2 (n - 1 - k) % 2) w hsz hbl hsnd
      have HST := Lib.hid (And.intro hstep hpf)
      generalize B.P2 (n - 1 - k) = y at *
      have hq := bit_val v y hv31
      rw [hq] at HPUT
      have HPUT2 := Lib.hid HPUT
      have yz : ((y : Int) == 0) = false := by rw [beq_eq_false_iff_ne]; omega
      have HPW2 := Lib.hid HPW
      obtain ⟨c0, c1, f0, f1, cz⟩ := hc
      have HD := Lib.hid hd
      have HBEL := Lib.hid hbel
      clear hs' hf' hsnd hstep hpf HPW hq hd hbel HPUT hbl
      go_wp2_with fail
      go_region_with (first | (go_at_call 79; ((with_reducible refine (HPW2.out _).mono ?_); rintro e w' ⟨rfl, rfl⟩)) | (go_at_call 80; ((with_reducible refine (HPUT2.out _).mono ?_); rintro e w2 ⟨rfl, hb2⟩; have HB2 := Lib.hid hb2; obtain ⟨q0, q1, r0, r1, qz⟩ := Box.keep (Box.drewN ⟨c0, c1, f0, f1, cz⟩ 1) hb2; clear hb2)))
      all_goals
        go_wp2
        go_roundw
        case rel =>
          exact ⟨k + 1, _, _, by omega, by go_num, congrArg bs HST.out.1, HST.out.2, (Box.set0 ⟨q0, q1, r0, r1, qz⟩ _).set1 _, ((HD.out.drew.keep HB2.out).far (by simp) _).far (by simp) _, bq_set (bq_set (bq_trans (bq_drew HBEL.out) HB2.out) _ (by simp) _) _ (by simp) _⟩
        case measure => simp [intOf]; omega
    · obtain rfl : k = n := by omega
      have HS' : Hid (s' = bs (B.putL s.data.toList 0 v k)) := Lib.hid (by rw [hs', Nat.sub_self, B.P2_zero, Nat.div_one])
      have HF' : Hid (f' = B.putF s.size 0 k) := Lib.hid (by rw [hf', bytes_length])
      obtain ⟨c0, c1, f0, f1, cz⟩ := hc
      obtain ⟨d0, d1, g0, g1, hz⟩ := hd
      have HBEL := Lib.hid hbel
      clear hs' hf' hbel
      go_wp2
      exact refputplain_post ((Box.set0 ⟨d0, d1, g0, g1, hz⟩ _).set1 _) rfl rfl rfl ⟨by rw [rpR, HNF.out, HS'.out, HF'.out]; rfl, bq_set (bq_set HBEL.out _ (by simp) _) _ (by simp) _⟩
set_option maxHeartbeats 2000000 in
theorem refputplain_sound (s : ByteArray) (f : Nat) (v n : Nat) (w : World) (hs : s.size ≤ 1000000) (hn : n ≤ 31) (hv : v < B.P2 n) (m : Nat) (hf7 : f ≤ 7) (hm : m < s.size) (hm2 : s.size ≤ m + 1) (hl : s[m].toNat % B.P2 f = 0) (HSN : Hid (B.Snd s.data.toList f)) (hnf : nf s f = f) :
    Calls Try.prog 64 #[.agg #[.string s, .int .i64 f], .int .i64 v, .int .i64 n] w fun e w' => e = .returned (rpR s f v n) ∧ Below w.heap.size w w' := by
  have HP := Lib.hid (fun w => power_any n w (by omega))
  have HV := Lib.hid hv
  have hv31 : v < 2147483648 := Nat.lt_of_lt_of_le hv (B.P2_le (b := 31) hn)
  obtain ⟨C, D, H⟩ := box2_now w (.string s) (.int .i64 f) (.string ⟨#[]⟩) (.int .i64 0) 87 87
  have fb1 : decide ((f : Int) < 0) = false := by simp
  have fb2 : decide (7 < (f : Int)) = false := by simp; omega
  have fb3 : ((s.size : Int) == 0) = false := by rw [beq_eq_false_iff_ne]; omega
  have wr1 : IntKind.i64.wrap ((s.size : Int) - 1) = (m : Int) := by rw [i64_wrap _ (by omega) (by omega)]; omega
  have b2 : (m : Int) < (s.size : Int) := by omega
  have HPF := Lib.hid (fun w => power_any f w (by omega))
  have hyp := B.P2_pos f
  have hlz : ((B.P2 f : Int) == 0) = false := by rw [beq_eq_false_iff_ne]; omega
  have hlb : ((wrap64 (s[m].toNat : Int)).tmod (B.P2 f : Int) != 0) = false := by rw [last_val]; simp; omega
  clear hl
  have HNF := Lib.hid hnf
  have p1 : decide ((n : Int) < 0) = false := by simp
  have p2 : decide (31 < (n : Int)) = false := by simp; omega
  have p3 : decide ((v : Int) < 0) = false := by simp
  have p4 : decide (B.P2 n ≤ v) = false := by simp; omega
  clear hnf

  go_enter Try.func64, Try.ntmps64
  go_upto_region 3 with (go_at_call 79; refine (HP.out _).mono ?_; rintro e w' ⟨rfl, rfl⟩)
  generalize (w.alloc (.cells #[.string s, .int .i64 f] 87)).alloc (.cells #[.string ⟨#[]⟩, .int .i64 0] 87) = w1 at C D H ⊢
  have C1 := Lib.hid (Box.set1 (Box.drewN C 1) (.int .i64 0))
  obtain ⟨c0, c1, f0, f1, cz⟩ := C
  have HD := Lib.hid D
  have H1 := Lib.hid H
  clear D H
  go_quiet ((go_at_call 79; exact quiet_same (HPF.out _)))
  go_upto_region 5 with (fail)
  have C2 := Lib.hid (Box.drewN ⟨c0, c1, f0, f1, cz⟩ nq)
  have D2 := Lib.hid (HD.out.drewN nq)
  have H2 := Lib.hid (bq_drewN H1.out nq)
  clear C1 c0 c1 f0 f1 cz HD H1
  generalize w1.drewN nq = W at C2 D2 H2 ⊢
  have hloop : f ≤ 8 * s.data.toList.length := HSN.out.2.1
  have HF := Lib.hid hloop
  clear hloop
  go_wp2_with fail
  go_loopw [8] (fun i wr => RpRel w s.data.toList f v n i wr) (fun i _ => (intOf i + 1).toNat)
  case atStart => exact ⟨0, s, f, by omega, by simp, by rw [Nat.sub_zero, Nat.div_eq_of_lt HV.out, B.putL_nil _ _ HSN.out, bs_of], by rw [B.putF_nil _ _ HSN.out.1 HF.out], C2.out, D2.out, H2.out⟩
  case round =>
    obtain ⟨k, s', f', hk, rfl, hs', hf', hc, hd, hbel⟩ := hrel
    have hsz : s'.size ≤ 1099511627776 := by rw [hs', bs_size, B.putL_len]; unfold B.putN; rw [bytes_length]; omega
    by_cases hlt : k < n
    · have hsnd : B.Snd s'.data.toList f' := by rw [hs', hf', bs_data]; exact bit_snd _ _ _ _ _ (by omega) HV.out HF.out
      have hstep := bit_step s.data.toList f v n k hlt HV.out HF.out
      rw [← bs_data (B.putL s.data.toList f (v / B.P2 (n - k)) k), ← hs', ← hf'] at hstep
      have hpf : B.putF s'.size f' 1 = B.putF s.data.toList.length f (k + 1) := by
        rw [hs', bs_size, B.putL_len, hf', B.putF_comp _ _ _ _ HF.out]
      have HPW := fun w => power_any (n - 1 - k) w (by omega)
      rw [show ((n - 1 - k : Nat) : Int) = (n : Int) - 1 - (k : Int) by omega] at HPW
      have hpos := B.P2_pos (n - 1 - k)
      have hpb : B.P2 (n - 1 - k) ≤ 2147483648 := B.P2_le (b := 31) (by omega)
      have hbl : v / B.P2 (n - 1 - k) % 2 < 2 := Nat.mod_lt _ (by omega)
      have HPUT := fun w => refput_any s' f' (v / B.P2 (n - 1 - k) % 2) w hsz hbl hsnd
      have HST := Lib.hid (And.intro hstep hpf)
      generalize B.P2 (n - 1 - k) = y at *
      have hq := bit_val v y hv31
      rw [hq] at HPUT
      have HPUT2 := Lib.hid HPUT
      have yz : ((y : Int) == 0) = false := by rw [beq_eq_false_iff_ne]; omega
      have HPW2 := Lib.hid HPW
      obtain ⟨c0, c1, f0, f1, cz⟩ := hc
      have HD := Lib.hid hd
      have HBEL := Lib.hid hbel
      clear hs' hf' hsnd hstep hpf HPW hq hd hbel HPUT hbl
      go_wp2_with fail
      go_region_with (first | (go_at_call 79; ((with_reducible refine (HPW2.out _).mono ?_); rintro e w' ⟨rfl, rfl⟩)) | (go_at_call 80; ((with_reducible refine (HPUT2.out _).mono ?_); rintro e w2 ⟨rfl, hb2⟩; have HB2 := Lib.hid hb2; obtain ⟨q0, q1, r0, r1, qz⟩ := Box.keep (Box.drewN ⟨c0, c1, f0, f1, cz⟩ 1) hb2; clear hb2)))
      all_goals
        go_wp2
        go_roundw
        case rel =>
          exact ⟨k + 1, _, _, by omega, by go_num, congrArg bs HST.out.1, HST.out.2, (Box.set0 ⟨q0, q1, r0, r1, qz⟩ _).set1 _, ((HD.out.drew.keep HB2.out).far (by simp) _).far (by simp) _, bq_set (bq_set (bq_trans (bq_drew HBEL.out) HB2.out) _ (by simp) _) _ (by simp) _⟩
        case measure => simp [intOf]; omega
    · obtain rfl : k = n := by omega
      have HS' : Hid (s' = bs (B.putL s.data.toList f v k)) := Lib.hid (by rw [hs', Nat.sub_self, B.P2_zero, Nat.div_one])
      have HF' : Hid (f' = B.putF s.size f k) := Lib.hid (by rw [hf', bytes_length])
      obtain ⟨c0, c1, f0, f1, cz⟩ := hc
      obtain ⟨d0, d1, g0, g1, hz⟩ := hd
      have HBEL := Lib.hid hbel
      clear hs' hf' hbel
      go_wp2
      exact refputplain_post ((Box.set0 ⟨d0, d1, g0, g1, hz⟩ _).set1 _) rfl rfl rfl ⟨by rw [rpR, HNF.out, HS'.out, HF'.out]; rfl, bq_set (bq_set HBEL.out _ (by simp) _) _ (by simp) _⟩
theorem refputplain_any (s : ByteArray) (f v n : Int) (w : World) (hs : s.size ≤ 1000000) :
    Calls Try.prog 64 #[.agg #[.string s, .int .i64 f], .int .i64 v, .int .i64 n] w fun e w' => e = .returned (if ppOk v n = true then rpR s f v.toNat n.toNat else errF) ∧ Below w.heap.size w w' := by
  by_cases h : 0 ≤ n ∧ n ≤ 31 ∧ 0 ≤ v
  · obtain ⟨N, rfl⟩ := Int.eq_ofNat_of_zero_le h.1
    obtain ⟨V, rfl⟩ := Int.eq_ofNat_of_zero_le h.2.2
    have hn : N ≤ 31 := by omega
    by_cases hv : V < B.P2 N
    · have e : ppOk V N = true := by simp [ppOk]; omega
      rw [e, if_pos rfl, Int.toNat_natCast, Int.toNat_natCast]
      by_cases h0 : f < 0
      · exact refputplain_neg s f V N w hs hn hv h0 (by unfold nf; rw [if_neg (by omega)])
      by_cases h1 : 7 < f
      · exact refputplain_big s f V N w hs hn hv h1 (by unfold nf; rw [if_neg (by omega)])
      by_cases h2 : s.size = 0
      · exact refputplain_empty s f V N w hs hn hv (by omega) (by omega) h2 (by unfold nf; rw [if_neg (by omega)])
      obtain ⟨F, rfl⟩ := Int.eq_ofNat_of_zero_le (show 0 ≤ f by omega)
      obtain ⟨m, hm⟩ : ∃ m, m + 1 = s.size := ⟨s.size - 1, by omega⟩
      have el := last_mod_bs s m (by omega) (by omega) F (by omega)
      by_cases h3 : B.bv s.data.toList % B.P2 F = 0
      · have hsn : B.Snd s.data.toList F := ⟨by omega, by rw [bytes_length]; omega, h3⟩
        exact refputplain_sound s F V N w hs hn hv m (by omega) (by omega) (by omega) (by rw [← el]; exact h3) (Lib.hid hsn) (nf_of_snd s F hsn)
      · exact refputplain_loose s F V N w hs hn hv m (by omega) (by omega) (by omega) (by rw [← el]; exact h3) (by unfold nf; rw [if_neg (by intro k; exact h3 k.2.2.2)])
    · have e : ppOk V N = false := by simp [ppOk]; omega
      rw [e]
      exact refputplain_over s f V N w hn (by omega)
  · have e : ppOk v n = false := by
      unfold ppOk
      by_cases h1 : 0 ≤ n <;> by_cases h2 : n ≤ 31 <;> by_cases h3 : 0 ≤ v <;> simp [h1, h2, h3] <;> exact absurd ⟨h1, h2, h3⟩ h
    rw [e]
    exact refputplain_bad s f v n w (by omega)
end Go.Proofs.Ytfaipbdkkkhacaa
/- Layer 2: the document's PutSigned, PutLittle. -/
namespace Go.Proofs.Ytfaipbdkkkhacaa
open Go.RowKit
set_option linter.unusedVariables false

theorem refputsigned_post {Q : Ending → World → Prop} {a : Act} {W : World} {g : Nat} {x y v : Value} (hbox : Box W g x y) (h6 : a.tmps[6]?.getD undef = .pointer (some ⟨g, 0, none⟩)) (h7 : a.tmps[7]?.getD undef = v)
    (hd : a.defers = []) (hQ : Q (.returned (.tuple #[.agg #[x, y], v])) W) : bodyPost Try.prog Try.f65 Q Exit.ret a W :=
  bodyPost_ret (v := .tuple #[.agg #[x, y], v]) (by simp [results, Try.results65, go_sem, h6, h7, hbox.1, hbox.2.1]) hd hQ
theorem refputsigned_bad (s : ByteArray) (f v n : Int) (w : World) (v0 : -9223372036854775808 ≤ v) (v1 : v ≤ 9223372036854775807) (h : n < 0 ∨ 31 < n ∨ n < wd v) :
    Calls Try.prog 65 #[.agg #[.string s, .int .i64 f], .int .i64 v, .int .i64 n] w fun e w' => e = .returned errF ∧ Below w.heap.size w w' := by
  have HH := Lib.hid (box2_now w (.string s) (.int .i64 f) (.string ⟨#[]⟩) (.int .i64 0) 87 87).2.2
  by_cases h0 : n < 0
  · clear h
    go_enter Try.func65, Try.ntmps65
    go_wp2_with fail
    exact bodyPost_ret (v := errF) (by simp [results, Try.results65, go_sem, errF]) rfl ⟨rfl, HH.out⟩
  · by_cases h1 : 31 < n
    · clear h
      go_enter Try.func65, Try.ntmps65
      go_wp2_with fail
      exact bodyPost_ret (v := errF) (by simp [results, Try.results65, go_sem, errF]) rfl ⟨rfl, HH.out⟩
    · have hv : n < wd v := by omega
      have HW := Lib.hid (fun w => refwidth_any v w v0 v1)
      generalize wd v = y at *
      clear h
      go_enter Try.func65, Try.ntmps65
      go_wp2_with (go_at_call 78; refine (HW.out _).mono ?_; rintro e w' ⟨rfl, rfl⟩)
      exact bodyPost_ret (v := errF) (by simp [results, Try.results65, go_sem, errF]) rfl ⟨rfl, HH.out⟩
theorem refputsigned_ok (s : ByteArray) (f v : Int) (u n : Nat) (w : World) (hs : s.size ≤ 1000000) (v0 : -9223372036854775808 ≤ v) (v1 : v ≤ 9223372036854775807) (hn : n ≤ 31) (hw : wd v ≤ n)
    (hu : u < B.P2 n) (HU : Hid (v < 0 ∧ v + B.P2 n = u ∨ 0 ≤ v ∧ v = u)) :
    Calls Try.prog 65 #[.agg #[.string s, .int .i64 f], .int .i64 v, .int .i64 n] w fun e w' => e = .returned (rpR s f u n) ∧ Below w.heap.size w w' := by
  have HP := fun w => refputplain_any s f u n w hs
  have e : ppOk u n = true := by simp [ppOk]; omega
  rw [e, if_pos rfl, Int.toNat_natCast, Int.toNat_natCast] at HP
  have HPP := Lib.hid HP
  have HW := Lib.hid (fun w => refwidth_any v w v0 v1)
  have HPW := Lib.hid (fun w => power_any n w (by omega))
  have hpb : B.P2 n ≤ 2147483648 := B.P2_le (b := 31) hn
  generalize wd v = y at *
  generalize B.P2 n = z at *
  clear HP e
  unfold rpR at *
  rcases HU.out with ⟨hv, hw2⟩ | ⟨hv, hw2⟩
  · have HW2 := Lib.hid hw2
    clear hw2 HU
    go_enter Try.func65, Try.ntmps65
    go_wp2_with (first | (go_at_call 78; refine (HW.out _).mono ?_; rintro e w' ⟨rfl, rfl⟩) | (go_at_call 79; refine (HPW.out _).mono ?_; rintro e w' ⟨rfl, rfl⟩))
    rw [HW2.out]
    refine (HPP.out _).mono ?_
    rintro e w1 ⟨rfl, hb1⟩
    obtain ⟨⟨c0, c1, f0, f1, cz⟩, ⟨d0, d1, g0, g1, hz⟩, H⟩ := box2_kept hb1
    have H1 := Lib.hid H
    clear hb1 H
    go_wp2_with fail
    exact refputsigned_post ((Box.set0 ⟨d0, d1, g0, g1, hz⟩ _).set1 _) rfl rfl rfl ⟨rfl, bq_set (bq_set H1.out _ (by simp) _) _ (by simp) _⟩
  · subst hw2
    clear HU
    go_enter Try.func65, Try.ntmps65
    go_wp2_with (go_at_call 78; refine (HW.out _).mono ?_; rintro e w' ⟨rfl, rfl⟩)
    refine (HPP.out _).mono ?_
    rintro e w1 ⟨rfl, hb1⟩
    obtain ⟨⟨c0, c1, f0, f1, cz⟩, ⟨d0, d1, g0, g1, hz⟩, H⟩ := box2_kept hb1
    have H1 := Lib.hid H
    clear hb1 H
    go_wp2_with fail
    exact refputsigned_post ((Box.set0 ⟨d0, d1, g0, g1, hz⟩ _).set1 _) rfl rfl rfl ⟨rfl, bq_set (bq_set H1.out _ (by simp) _) _ (by simp) _⟩
theorem refputsigned_any (s : ByteArray) (f v n : Int) (w : World) (hs : s.size ≤ 1000000) (v0 : -9223372036854775808 ≤ v) (v1 : v ≤ 9223372036854775807) :
    Calls Try.prog 65 #[.agg #[.string s, .int .i64 f], .int .i64 v, .int .i64 n] w fun e w' => e = .returned (if psOk v n = true then rpR s f (sgU v n.toNat) n.toNat else errF) ∧ Below w.heap.size w w' := by
  by_cases h : 0 ≤ n ∧ n ≤ 31 ∧ (wd v : Int) ≤ n
  · obtain ⟨N, rfl⟩ := Int.eq_ofNat_of_zero_le h.1
    have e : psOk v N = true := by simp [psOk]; omega
    rw [e, if_pos rfl]
    have hu := (sgU_lt v N v0 v1 (by omega) (by omega))
    refine refputsigned_ok s f v (sgU v N) N w hs v0 v1 (by omega) (by omega) hu.1 (Lib.hid ?_)
    unfold sgU
    by_cases hv : v < 0
    · left
      have := hu.2.1 hv
      rw [if_pos hv]
      omega
    · right
      rw [if_neg hv]
      omega
  · have e : psOk v n = false := by
      unfold psOk
      by_cases h1 : 0 ≤ n <;> by_cases h2 : n ≤ 31 <;> by_cases h3 : (wd v : Int) ≤ n <;> simp [h1, h2, h3] <;> exact absurd ⟨h1, h2, h3⟩ h
    rw [e]
    exact refputsigned_bad s f v n w v0 v1 (by omega)

def rlR (s : ByteArray) (v n : Nat) : Value := .tuple #[.agg #[.string (s ++ bs (B.le n v)), .int .i64 0], .bool true]
theorem app_nil (s : ByteArray) : s ++ bs [] = s := by
  rw [← bs_of s, bs_append, List.append_nil]
def RlRel (w : World) (s : ByteArray) (v n : Nat) (x i : Value) (wr : World) : Prop :=
  ∃ k : Nat, ∃ s' : ByteArray, k ≤ n ∧ i = .int .i64 (k : Int) ∧ x = .string s' ∧ s' = s ++ bs (B.le k v) ∧ Box wr (w.heap.size + 1) (.string ⟨#[]⟩) (.int .i64 0) ∧ Below w.heap.size w wr
theorem le_val (v y : Nat) (hv : v < 4294967296) : (wrap64 ((v : Int) / (y : Int))).tmod 256 = ((v / y % 256 : Nat) : Int) := by
  have hdv : v / y ≤ v := Nat.div_le_self _ _
  rw [show (v : Int) / (y : Int) = ((v / y : Nat) : Int) by push_cast; rfl]
  generalize v / y = d at *
  rw [i64_id (d : Int) (by omega) (by omega), Int.tmod_eq_emod_of_nonneg (by omega)]
  omega
end Go.Proofs.Ytfaipbdkkkhacaa
/- Layer 7: the document's width of numbers, one bit, numbers behind their width. -/
namespace Go.Proofs.Ytfaipbdkkkhacaa
open Go.RowKit
set_option linter.unusedVariables false

theorem size87 : (Try.prog.info? 87).map (·.size) = some 2 := by kernel_rfl
theorem zero87 (w : World) : (zeroValue 87).run Try.prog w = .ok (.agg #[.string ⟨#[]⟩, .int .i64 0]) w := Try.zeroValue87 w
theorem rpR_bys {fs : List (Nat × Nat)} {v n : Nat} (h : F.ok fs) (hv : v < B.P2 n) : rpR (bs (F.bys fs)) (F.fr fs : Int) v n = .tuple #[.agg (wrA (fs ++ [(v, n)])), .bool true] := by
  unfold rpR wrA
  rw [F.nf_bys h, bs_data, bs_size, (F.put h hv).1, (F.put h hv).2]
theorem refputplain_bys (fs : List (Nat × Nat)) (v n : Nat) (w : World) (h : F.ok fs) (hl : F.len fs ≤ 1000000) (hn : n ≤ 31) (hv : v < B.P2 n) :
    Calls Try.prog 64 #[.agg (wrA fs), .int .i64 v, .int .i64 n] w fun e w' => e = .returned (.tuple #[.agg (wrA (fs ++ [(v, n)])), .bool true]) ∧ Below w.heap.size w w' := by
  have hp := refputplain_any (bs (F.bys fs)) (F.fr fs : Int) (v : Int) (n : Int) w (by rw [bs_size, F.bys_len]; omega)
  rw [if_pos (by simp [ppOk]; omega), Int.toNat_natCast, Int.toNat_natCast, rpR_bys h hv] at hp
  exact hp
theorem refputsigned_bys (fs : List (Nat × Nat)) (v : Int) (n : Nat) (w : World) (h : F.ok fs) (hl : F.len fs ≤ 1000000) (hn : n ≤ 31) (hv : wd v ≤ n) (hb : I64 v) :
    Calls Try.prog 65 #[.agg (wrA fs), .int .i64 v, .int .i64 n] w fun e w' => e = .returned (.tuple #[.agg (wrA (fs ++ [(sgU v n, n)])), .bool true]) ∧ Below w.heap.size w w' := by
  have hp := refputsigned_any (bs (F.bys fs)) (F.fr fs : Int) v (n : Int) w (by rw [bs_size, F.bys_len]; omega) hb.1 hb.2
  rw [if_pos (by simp [psOk]; omega), Int.toNat_natCast, rpR_bys h (sgU_lt v n hb.1 hb.2 hn hv).1] at hp
  exact hp
set_option maxHeartbeats 1000000 in
theorem flag_any (fs : List (Nat × Nat)) (q : Bool) (w : World) (h : F.ok fs) (hl : F.len fs ≤ 1000000) :
    Calls Try.prog 45 #[.agg (wrA fs), .bool q] w fun e w' => e = .returned (.agg (wrA (fs ++ [(b01 q, 1)]))) ∧ Below w.heap.size w w' := by
  have HP := Lib.hid (fun w => refputplain_bys fs (b01 q) 1 w h hl (by omega) (b01_lt q))
  clear h hl
  cases q
  all_goals
    go_enter Try.func45, Try.ntmps45
    go_wp2_with (first
      | (refine wl_box 87 _ _ rfl rfl rfl ?_; intro W0 b0 B0 l0 k0)
      | (refine wl_alloc 87 _ zero87 rfl rfl ?_; intro W1 b1 B1 l1 k1; have B2 := B0.keep k1)
      | (refine wl_load 87 2 _ Try.underlying87 rfl size87 _ rfl rfl _ rfl _ _ B2 (wrA_size _) ?_)
      | (go_at_call 64; refine (HP.out _).mono ?_; rintro e w2 ⟨rfl, hb2⟩; have B3 := B2.keep hb2; have B4 := B1.keep hb2)
      | (refine wl_store 87 2 size87 _ _ rfl rfl _ rfl _ rfl _ _ B3 (wrA_size _) (wrA_size _) (wrA_one _) ?_; intro W5 B5 T5)
      | (refine wl_load 87 2 _ Try.underlying87 rfl size87 _ rfl rfl _ rfl _ _ B5 (wrA_size _) ?_)
      | (refine wl_store 87 2 size87 _ _ rfl rfl _ rfl _ rfl _ _ (T5.blk B4 (by have := B0.lt; omega)) rfl (wrA_size _) (wrA_one _) ?_; intro W6 B6 T6))
    exact post_cell Try.underlying87 rfl size87 Try.results45 B6 (wrA_size _) rfl rfl ⟨rfl, T6.below (T5.below (bq_trans (bq_trans k0 k1) hb2) l0) (by have := k0.size; omega)⟩
def RwRel (zs : List Int) (m i : Value) : Prop := ∃ k x : Nat, k ≤ zs.length ∧ i = .int .i64 k ∧ m = .int .i64 (x : Int) ∧ x = mxW (zs.take k) ∧ x ≤ 64
set_option maxHeartbeats 1000000 in
theorem refwidths_ints (zs : List Int) (a : Option Addr) (b o c : Nat) (w : World) (hl : zs.length ≤ 1000000) (ha : Hid (Ints w zs a b o)) :
    Calls Try.prog 63 #[.slice a zs.length c] w fun e w' => e = .returned (.int .i64 (mxW zs : Int)) ∧ w = w' := by
  go_enter Try.func63, Try.ntmps63
  go_wp2
  go_loop [3, 4] (fun m i => RwRel zs m i) (fun _ i => zs.length - (intOf i).toNat)
  case atStart => exact ⟨0, 0, by omega, rfl, rfl, rfl, by omega⟩
  case round =>
    obtain ⟨k, x, hk, rfl, rfl, hx, hx2⟩ := hrel
    have HX := Lib.hid hx
    clear hx
    by_cases hlt : k < zs.length
    · obtain ⟨rfl, z0, z1, hcell⟩ := ha.out.at (bq_refl w) k hlt
      have hstep := mxW_take zs k hlt
      rw [← HX.out] at hstep
      generalize zs[k] = z at *
      have hw64 := wd_le z z0 z1
      have HW := Lib.hid (fun w => refwidth_any z w z0 z1)
      generalize wd z = y at *
      by_cases hc : x < y
      · have HS : Hid (mxW (zs.take (k + 1)) = y) := Lib.hid (by rw [hstep]; omega)
        clear hstep
        go_wp2_with (go_at_call 78; refine (HW.out _).mono ?_; rintro e w' ⟨rfl, rfl⟩)
        go_round
        case rel => exact ⟨k + 1, y, by omega, by go_num, rfl, HS.out.symm, by omega⟩
        case measure => simp [intOf]; omega
      · have HS : Hid (mxW (zs.take (k + 1)) = x) := Lib.hid (by rw [hstep]; omega)
        clear hstep
        go_wp2_with (go_at_call 78; refine (HW.out _).mono ?_; rintro e w' ⟨rfl, rfl⟩)
        go_round
        case rel => exact ⟨k + 1, x, by omega, by go_num, rfl, HS.out.symm, by omega⟩
        case measure => simp [intOf]; omega
    · obtain rfl : k = zs.length := by omega
      have HL : Hid (mxW zs = x) := Lib.hid (by rw [HX.out, List.take_length])
      go_wp2
      go_ret
      exact ⟨ret_int (by rw [HL.out]), rfl⟩
def RnRel (w : World) (fs : List (Nat × Nat)) (h : Nat) (l : List Int) (b0 b1 : Nat) (i : Value) (wr : World) : Prop :=
  ∃ k : Nat, k ≤ l.length ∧ i = .int .i64 k ∧ Blk wr b0 (wrA (fs ++ (F.nums h l).take (k + 1))) 87 ∧ Blk wr b1 #[.string ⟨#[]⟩, .int .i64 0] 87 ∧ Below w.heap.size w wr
set_option maxHeartbeats 2000000 in
theorem refnumbers_any (fs : List (Nat × Nat)) (h : Nat) (l : List Int) (a : Option Addr) (b o c : Nat) (w : World) (hf : F.ok fs) (hl : F.len fs + F.len (F.nums h l) ≤ 1000000) (hh : h ≤ 31) (h1 : mxW l < B.P2 h) (h2 : mxW l ≤ 31) (hn : l.length ≤ 1000000) (ha : Hid (Ints w l a b o)) :
    Calls Try.prog 44 #[.agg (wrA fs), .int .i64 h, .slice a l.length c] w fun e w' => e = .returned (.agg (wrA (fs ++ F.nums h l))) ∧ Below w.heap.size w w' := by
  have hok : F.ok (F.nums h l) := F.nums_ok h1 h2 fun v hv => by
    obtain ⟨i, hi, rfl⟩ := List.getElem_of_mem hv
    exact ha.out.2.1 i hi
  have HW := Lib.hid (fun W (k : Below w.heap.size w W) => refwidths_ints l a b o c W hn (Lib.hid (ha.out.keep k)))
  have HP := Lib.hid (fun W => refputplain_bys fs (mxW l) h W hf (by omega) hh h1)
  have HS : Hid (∀ k (hk : k < l.length) W w0, Below W.heap.size W w0 → Calls Try.prog 65 #[.agg (wrA (fs ++ (F.nums h l).take (k + 1))), .int .i64 l[k], .int .i64 (mxW l)] w0 fun e w' => e = .returned (.tuple #[.agg (wrA (fs ++ (F.nums h l).take (k + 1 + 1))), .bool true]) ∧ Below W.heap.size W w') := Lib.hid fun k hk W w0 hw0 => by
    have hb := ha.out.2.1 k hk
    have h3 := len_take_le fs (F.nums h l) (k + 1)
    rw [← nums_step fs h l k hk]
    exact (refputsigned_bys _ l[k] (mxW l) w0 (F.ok_app hf (F.ok_take hok _)) (by omega) h2 (F.mxW_mem (List.getElem_mem hk)) hb).mono fun e w' ⟨h1, h2⟩ => ⟨h1, bq_trans hw0 h2⟩
  have HE : Hid (fs ++ F.nums h l = fs ++ (F.nums h l).take (l.length + 1)) := Lib.hid (by rw [F.nums_all])
  have H0 : Hid (fs ++ [(mxW l, h)] = fs ++ (F.nums h l).take (0 + 1)) := Lib.hid (by unfold F.nums; rfl)
  rw [H0.out] at HP
  rw [HE.out]
  clear hok hf hl hh h1 HE H0
  generalize mxW l = m at *
  go_enter Try.func44, Try.ntmps44
  go_wp2_with (first
    | (refine wl_box 87 _ _ rfl rfl rfl ?_; intro W0 b0 B0 l0 k0)
    | (refine wl_alloc 87 _ zero87 rfl rfl ?_; intro W1 b1 B1 l1 k1; have B2 := B0.keep k1)
    | (go_at_call 63; refine (HW.out _ (bq_trans k0 k1)).mono ?_; rintro e w1 ⟨rfl, rfl⟩)
    | (refine wl_load 87 2 _ Try.underlying87 rfl size87 _ rfl rfl _ rfl _ _ B2 (wrA_size _) ?_)
    | (go_at_call 64; refine (HP.out _).mono ?_; rintro e w2 ⟨rfl, hb2⟩; have B3 := B2.keep hb2; have B4 := B1.keep hb2)
    | (refine wl_store 87 2 size87 _ _ rfl rfl _ rfl _ rfl _ _ B3 (wrA_size _) (wrA_size _) (wrA_one _) ?_; intro W5 B5 T5))
  have n01 : b0 ≠ b1 := by have := B0.lt; omega
  have g0 : w.heap.size ≤ b0 := l0
  have g1 : w.heap.size ≤ b1 := by have := k0.size; omega
  have C1 := T5.blk B4 (Ne.symm n01)
  have HB := Lib.hid (T5.below (bq_trans (bq_trans k0 k1) hb2) l0)
  clear B0 B1 B2 B3 B4 T5 k0 k1 hb2 l0 l1 HW HP
  go_loopw [8] (fun i wr => RnRel w fs h l b0 b1 i wr) (fun i _ => l.length - (intOf i).toNat)
  case atStart => exact ⟨0, by omega, rfl, B5, C1, HB.out⟩
  case round =>
    obtain ⟨k, hk, rfl, D0, D1, hbel⟩ := hrel
    have HB2 := Lib.hid hbel
    clear hbel B5 C1 HB
    by_cases hlt : k < l.length
    · obtain ⟨rfl, z0, z1, hcell⟩ := ha.out.at HB2.out k hlt
      have HI := Lib.hid (ha.out.keep HB2.out)
      have HS2 := Lib.hid (fun w0 h0 => HS.out k hlt wr w0 h0)
      have HC : Hid (∀ w', Below wr.heap.size wr w' → w'.cell? ⟨b, o + k, none⟩ = some (.int .i64 l[k]) ∧ w'.cell? ⟨b0, 0, none⟩ = some (.string (bs (F.bys (fs ++ (F.nums h l).take (k + 1))))) ∧ w'.cell? ⟨b0, 1, none⟩ = some (.int .i64 (F.fr (fs ++ (F.nums h l).take (k + 1)) : Int)) ∧ w'.frozen? ⟨b0, 0, none⟩ = false ∧ w'.frozen? ⟨b0, 1, none⟩ = false) := Lib.hid fun w' hw' => ⟨(HI.out.keep hw').2.2 k hlt, (D0.keep hw').cell 0, (D0.keep hw').cell 1, (D0.keep hw').frozen 0, (D0.keep hw').frozen 1⟩
      have hd0 : Below wr.heap.size wr wr.drew := bq_drew (bq_refl wr)
      have HD0 := Lib.hid D0
      have HD1 := Lib.hid D1
      clear D0 D1 HI
      generalize hz : l[k] = z at *
      clear hz
      unfold wrA at HS2
      generalize bs (F.bys (fs ++ (F.nums h l).take (k + 1))) = u at *
      generalize (F.fr (fs ++ (F.nums h l).take (k + 1)) : Int) = v at *
      go_wp2_with fail
      have hc0 := HC.out _ (bq_refl wr)
      obtain ⟨q0, q1, q2, q3, q4⟩ := hc0
      go_region_with (first | (go_at_call 65; refine (HS2.out _ (by assumption)).mono ?_; rintro e w9 ⟨rfl, hb9⟩; obtain ⟨q5, q6, q7, q8, q9⟩ := HC.out _ hb9))
      all_goals
        have B8 : Blk ((w9.setCell ⟨b0, 0, none⟩ (.string (bs (F.bys (fs ++ (F.nums h l).take (k + 1 + 1)))))).setCell ⟨b0, 1, none⟩ (.int .i64 (F.fr (fs ++ (F.nums h l).take (k + 1 + 1)) : Int))) b0 (wrA (fs ++ (F.nums h l).take (k + 1 + 1))) 87 := ((HD0.out.keep hb9).set 0 _).set 1 _
        have E1 : Blk ((w9.setCell ⟨b0, 0, none⟩ (.string (bs (F.bys (fs ++ (F.nums h l).take (k + 1 + 1)))))).setCell ⟨b0, 1, none⟩ (.int .i64 (F.fr (fs ++ (F.nums h l).take (k + 1 + 1)) : Int))) b1 #[.string ⟨#[]⟩, .int .i64 0] 87 := ((HD1.out.keep hb9).other _ (Ne.symm n01)).other _ (Ne.symm n01)
        have HB3 := Lib.hid (bq_set (bq_set (bq_trans HB2.out hb9) ⟨b0, 0, none⟩ g0 (.string (bs (F.bys (fs ++ (F.nums h l).take (k + 1 + 1)))))) ⟨b0, 1, none⟩ g0 (.int .i64 (F.fr (fs ++ (F.nums h l).take (k + 1 + 1)) : Int)))
        generalize (w9.setCell ⟨b0, 0, none⟩ (.string (bs (F.bys (fs ++ (F.nums h l).take (k + 1 + 1)))))).setCell ⟨b0, 1, none⟩ (.int .i64 (F.fr (fs ++ (F.nums h l).take (k + 1 + 1)) : Int)) = W9 at *
        go_wp2
        go_roundw
        case rel => exact ⟨k + 1, by omega, by go_num, B8, E1, HB3.out⟩
        case measure => simp [intOf]; omega
    · obtain rfl : k = l.length := by omega
      go_wp2_with (first
        | (refine wl_load 87 2 _ Try.underlying87 rfl size87 _ rfl rfl _ rfl _ _ D0 (wrA_size _) ?_)
        | (refine wl_store 87 2 size87 _ _ rfl rfl _ rfl _ rfl _ _ D1 rfl (wrA_size _) (wrA_one _) ?_; intro W8 B8 T8))
      exact post_cell Try.underlying87 rfl size87 Try.results44 B8 (wrA_size _) rfl rfl ⟨rfl, T8.below HB2.out g1⟩
end Go.Proofs.Ytfaipbdkkkhacaa
