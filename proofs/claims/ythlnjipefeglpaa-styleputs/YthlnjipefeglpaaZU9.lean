import Derived.Test.YthlnjipefeglpaaZU6
import Derived.Test.YthlnjipefeglpaaZU3
import Derived.Test.YthlnjipefeglpaaZU4
namespace Go.Proofs.Ythlnjipefeglpaa
open Go.RowKit
set_option linter.unusedVariables false
theorem size23 : (Try.prog.info? 40).map (·.size) = some 2 := by kernel_rfl
theorem zero23 (w : World) : (zeroValue 40).run Try.prog w = .ok (.agg #[.string ⟨#[]⟩, .int .i64 0]) w := Try.zeroValue40 w
def wrA (fs : List (Nat × Nat)) : Array Value := #[.string (bs (F.bys fs)), .int .i64 (F.fr fs : Int)]
theorem wrA_size (fs : List (Nat × Nat)) : (wrA fs).size = 2 := rfl
theorem wrA_one (fs : List (Nat × Nat)) : (wrA fs).all (·.oneCell') = true := by kernel_rfl
theorem putplain_bys (fs : List (Nat × Nat)) (v n : Nat) (w : World) (h : F.ok fs) (hl : F.len fs ≤ 1000000) (hn : n ≤ 31) (hv : v < B.P2 n) :
    Calls Try.prog 84 #[.agg (wrA fs), .int .i64 v, .int .i64 n] w fun e w' => e = .returned (.tuple #[.agg (wrA (fs ++ [(v, n)])), .int .i64 0]) ∧ Below w.heap.size w w' := by
  have hp := putplain_any (bs (F.bys fs)) (F.fr fs : Int) (v : Int) (n : Int) w (by rw [bs_size, F.bys_len]; omega)
  rw [if_pos (by simp [ppOk]; omega), Int.toNat_natCast, Int.toNat_natCast, F.ppR_bys h hv] at hp
  exact hp
theorem putsigned_bys (fs : List (Nat × Nat)) (v : Int) (n : Nat) (w : World) (h : F.ok fs) (hl : F.len fs ≤ 1000000) (hn : n ≤ 31) (hv : wd v ≤ n) (hb : I64 v) :
    Calls Try.prog 86 #[.agg (wrA fs), .int .i64 v, .int .i64 n] w fun e w' => e = .returned (.tuple #[.agg (wrA (fs ++ [(sgU v n, n)])), .int .i64 0]) ∧ Below w.heap.size w w' := by
  have hp := putsigned_any (bs (F.bys fs)) (F.fr fs : Int) v (n : Int) w (by rw [bs_size, F.bys_len]; omega) hb.1 hb.2
  rw [if_pos (by simp [psOk]; omega), Int.toNat_natCast, F.ppR_bys h (sgU_lt v n hb.1 hb.2 hn hv).1] at hp
  exact hp
def b01 (b : Bool) : Nat := if b then 1 else 0
theorem b01_lt (b : Bool) : b01 b < B.P2 1 := by cases b <;> decide
set_option maxHeartbeats 1000000 in
theorem putbit_any (fs : List (Nat × Nat)) (q : Bool) (w : World) (h : F.ok fs) (hl : F.len fs ≤ 1000000) :
    Calls Try.prog 67 #[.agg (wrA fs), .bool q] w fun e w' => e = .returned (.agg (wrA (fs ++ [(b01 q, 1)]))) ∧ Below w.heap.size w w' := by
  have HP := Lib.hid (fun w => putplain_bys fs (b01 q) 1 w h hl (by omega) (b01_lt q))
  clear h hl
  cases q
  all_goals
    go_enter Try.func67, Try.ntmps67
    go_wp2_with (first
      | (refine wl_box 40 _ _ rfl rfl rfl ?_; intro W0 b0 B0 l0 k0)
      | (refine wl_alloc 40 _ zero23 rfl rfl ?_; intro W1 b1 B1 l1 k1; have B2 := B0.keep k1)
      | (refine wl_load 40 2 _ Try.underlying40 rfl size23 _ rfl rfl _ rfl _ _ B2 (wrA_size _) ?_)
      | (go_at_call 84; refine (HP.out _).mono ?_; rintro e w2 ⟨rfl, hb2⟩; have B3 := B2.keep hb2; have B4 := B1.keep hb2)
      | (refine wl_store 40 2 size23 _ _ rfl rfl _ rfl _ rfl _ _ B3 (wrA_size _) (wrA_size _) (wrA_one _) ?_; intro W5 B5 T5)
      | (refine wl_load 40 2 _ Try.underlying40 rfl size23 _ rfl rfl _ rfl _ _ B5 (wrA_size _) ?_)
      | (refine wl_store 40 2 size23 _ _ rfl rfl _ rfl _ rfl _ _ (T5.blk B4 (by have := B0.lt; omega)) rfl (wrA_size _) (wrA_one _) ?_; intro W6 B6 T6))
    exact post_cell Try.underlying40 rfl size23 Try.results67 B6 (wrA_size _) rfl rfl ⟨rfl, T6.below (T5.below (bq_trans (bq_trans k0 k1) hb2) l0) (by have := k0.size; omega)⟩
theorem width_ints (zs : List Int) (a : Option Addr) (b o c : Nat) (w : World) (hl : zs.length ≤ 1000000) (ha : Ints w zs a b o) :
    Calls Try.prog 85 #[.slice a zs.length c] w fun e w' => e = .returned (.int .i64 (mxW zs : Int)) ∧ w = w' :=
  width_list zs a b o c w hl (Lib.hid ha.1) (Lib.hid ha.2.1) (Lib.hid ha.2.2)
theorem nums_step (fs : List (Nat × Nat)) (h : Nat) (l : List Int) (k : Nat) (hk : k < l.length) : fs ++ (F.nums h l).take (k + 1) ++ [(sgU l[k] (mxW l), mxW l)] = fs ++ (F.nums h l).take (k + 1 + 1) := by
  rw [List.append_assoc, ← F.nums_take h l k hk]
theorem len_take_le (fs gs : List (Nat × Nat)) (k : Nat) : F.len (fs ++ gs.take k) ≤ F.len fs + F.len gs := by
  have h := F.len_app (gs.take k) (gs.drop k)
  rw [List.take_append_drop] at h
  rw [F.len_app]
  omega
def PnRel (w : World) (fs : List (Nat × Nat)) (h : Nat) (l : List Int) (b0 b1 : Nat) (i : Value) (wr : World) : Prop :=
  ∃ k : Nat, k ≤ l.length ∧ i = .int .i64 k ∧ Blk wr b0 (wrA (fs ++ (F.nums h l).take (k + 1))) 40 ∧ Blk wr b1 #[.string ⟨#[]⟩, .int .i64 0] 40 ∧ Below w.heap.size w wr
set_option maxHeartbeats 2000000 in
theorem putnumbers_any (fs : List (Nat × Nat)) (h : Nat) (l : List Int) (a : Option Addr) (b o c : Nat) (w : World) (hf : F.ok fs) (hl : F.len fs + F.len (F.nums h l) ≤ 1000000) (hh : h ≤ 31) (h1 : mxW l < B.P2 h) (h2 : mxW l ≤ 31) (hn : l.length ≤ 1000000) (ha : Hid (Ints w l a b o)) :
    Calls Try.prog 68 #[.agg (wrA fs), .int .i64 h, .slice a l.length c] w fun e w' => e = .returned (.agg (wrA (fs ++ F.nums h l))) ∧ Below w.heap.size w w' := by
  have hok : F.ok (F.nums h l) := F.nums_ok h1 h2 fun v hv => by
    obtain ⟨i, hi, rfl⟩ := List.getElem_of_mem hv
    exact ha.out.2.1 i hi
  have HW := Lib.hid (fun W (k : Below w.heap.size w W) => width_ints l a b o c W hn (ha.out.keep k))
  have HP := Lib.hid (fun W => putplain_bys fs (mxW l) h W hf (by omega) hh h1)
  have HS : Hid (∀ k (hk : k < l.length) W, Calls Try.prog 86 #[.agg (wrA (fs ++ (F.nums h l).take (k + 1))), .int .i64 l[k], .int .i64 (mxW l)] W fun e w' => e = .returned (.tuple #[.agg (wrA (fs ++ (F.nums h l).take (k + 1 + 1))), .int .i64 0]) ∧ Below W.heap.size W w') := Lib.hid fun k hk W => by
    have hb := ha.out.2.1 k hk
    have h3 := len_take_le fs (F.nums h l) (k + 1)
    rw [← nums_step fs h l k hk]
    exact putsigned_bys _ l[k] (mxW l) W (F.ok_app hf (F.ok_take hok _)) (by omega) h2 (F.mxW_mem (List.getElem_mem hk)) hb
  have HE : Hid (fs ++ F.nums h l = fs ++ (F.nums h l).take (l.length + 1)) := Lib.hid (by rw [F.nums_all])
  have H0 : Hid (fs ++ [(mxW l, h)] = fs ++ (F.nums h l).take (0 + 1)) := Lib.hid (by unfold F.nums; rfl)
  rw [H0.out] at HP
  rw [HE.out]
  clear hok hf hl hh h1 HE H0
  generalize mxW l = m at *
  go_enter Try.func68, Try.ntmps68
  go_wp2_with (first
    | (refine wl_box 40 _ _ rfl rfl rfl ?_; intro W0 b0 B0 l0 k0)
    | (refine wl_alloc 40 _ zero23 rfl rfl ?_; intro W1 b1 B1 l1 k1; have B2 := B0.keep k1)
    | (go_at_call 85; refine (HW.out _ (bq_trans k0 k1)).mono ?_; rintro e w1 ⟨rfl, rfl⟩)
    | (refine wl_load 40 2 _ Try.underlying40 rfl size23 _ rfl rfl _ rfl _ _ B2 (wrA_size _) ?_)
    | (go_at_call 84; refine (HP.out _).mono ?_; rintro e w2 ⟨rfl, hb2⟩; have B3 := B2.keep hb2; have B4 := B1.keep hb2)
    | (refine wl_store 40 2 size23 _ _ rfl rfl _ rfl _ rfl _ _ B3 (wrA_size _) (wrA_size _) (wrA_one _) ?_; intro W5 B5 T5))
  have n01 : b0 ≠ b1 := by have := B0.lt; omega
  have g0 : w.heap.size ≤ b0 := l0
  have g1 : w.heap.size ≤ b1 := by have := k0.size; omega
  have C1 := T5.blk B4 (Ne.symm n01)
  have HB := Lib.hid (T5.below (bq_trans (bq_trans k0 k1) hb2) l0)
  clear B0 B1 B2 B3 B4 T5 k0 k1 hb2 l0 l1 HW HP
  go_loopw [21] (fun i wr => PnRel w fs h l b0 b1 i wr) (fun i _ => l.length - (intOf i).toNat)
  case atStart => exact ⟨0, by omega, rfl, B5, C1, HB.out⟩
  case round =>
    obtain ⟨k, hk, rfl, D0, D1, hbel⟩ := hrel
    have HB2 := Lib.hid hbel
    clear hbel B5 C1 HB
    by_cases hlt : k < l.length
    · obtain ⟨rfl, z0, z1, hcell⟩ := ha.out.at HB2.out k hlt
      have HS2 := Lib.hid (HS.out k hlt)
      generalize l[k] = z at *
      go_wp2_with (first
        | (refine wl_load 40 2 _ Try.underlying40 rfl size23 _ rfl rfl _ rfl _ _ D0 (wrA_size _) ?_)
        | (go_at_call 86; refine (HS2.out _).mono ?_; rintro e w7 ⟨rfl, hb7⟩; have D2 := D0.keep hb7; have D3 := D1.keep hb7)
        | (refine wl_store 40 2 size23 _ _ rfl rfl _ rfl _ rfl _ _ D2 (wrA_size _) (wrA_size _) (wrA_one _) ?_; intro W8 B8 T8))
      have E1 := T8.blk D3 (Ne.symm n01)
      have HB3 := Lib.hid (T8.below (bq_trans HB2.out hb7) g0)
      go_roundw
      case rel => exact ⟨k + 1, by omega, by go_num, B8, E1, HB3.out⟩
      case measure => simp [intOf]; omega
    · obtain rfl : k = l.length := by omega
      go_wp2_with (first
        | (refine wl_load 40 2 _ Try.underlying40 rfl size23 _ rfl rfl _ rfl _ _ D0 (wrA_size _) ?_)
        | (refine wl_store 40 2 size23 _ _ rfl rfl _ rfl _ rfl _ _ D1 rfl (wrA_size _) (wrA_one _) ?_; intro W8 B8 T8))
      exact post_cell Try.underlying40 rfl size23 Try.results68 B8 (wrA_size _) rfl rfl ⟨rfl, T8.below HB2.out g1⟩
theorem behind_any (s t : ByteArray) (f g : Int) (w : World) (hs : s.size ≤ 1099511627776) (ht : t.size ≤ 1099511627776) :
    Calls Try.prog 69 #[.agg #[.string s, .int .i64 f], .agg #[.string t, .int .i64 g]] w fun e w' => e = .returned (.agg #[.string (s ++ t), .int .i64 0]) ∧ Below w.heap.size w w' := by
  have HP := Lib.hid (fun w => putbytes_any s t f w hs ht)
  clear hs ht
  go_enter Try.func69, Try.ntmps69
  go_wp2_with (first
    | (refine wl_box 40 _ _ rfl rfl (show _ = Value.agg #[.string s, .int .i64 f] from rfl) ?_; intro W0 b0 B0 l0 k0)
    | (refine wl_box 40 _ _ rfl rfl (show _ = Value.agg #[.string t, .int .i64 g] from rfl) ?_; intro W1 b1 B1 l1 k1)
    | (refine wl_alloc 40 _ zero23 rfl rfl ?_; intro W2 b2 B2 l2 k2; have B3 := (B0.keep k1).keep k2; have B4 := B1.keep k2; have c4 : W2.cell? ⟨b1, 0, none⟩ = some (.string t) := B4.cell 0)
    | (refine wl_load 40 2 _ Try.underlying40 rfl size23 _ rfl rfl _ rfl _ _ B3 rfl ?_)
    | (go_at_call 34; refine (HP.out _).mono ?_; rintro e w5 ⟨rfl, hb5⟩; have B5 := B2.keep hb5)
    | (refine wl_store 40 2 size23 _ _ rfl rfl _ rfl _ rfl _ _ B5 rfl rfl (by kernel_rfl) ?_; intro W6 B6 T6))
  exact post_cell Try.underlying40 rfl size23 Try.results69 B6 rfl rfl rfl ⟨rfl, T6.below (bq_trans (bq_trans (bq_trans k0 k1) k2) hb5) (by have := k0.size; have := k1.size; omega)⟩
end Go.Proofs.Ythlnjipefeglpaa
namespace Go.Proofs.Ythlnjipefeglpaa
open Go.RowKit
set_option linter.unusedVariables false
theorem putlittle_post {Q : Ending → World → Prop} {a : Act} {W : World} {g : Nat} {x y v : Value} (hbox : Box W g x y) (h6 : a.tmps[6]?.getD undef = .pointer (some ⟨g, 0, none⟩)) (h7 : a.tmps[7]?.getD undef = v)
    (hd : a.defers = []) (hQ : Q (.returned (.tuple #[.agg #[x, y], v])) W) : bodyPost Try.prog Try.f50 Q Exit.ret a W :=
  bodyPost_ret (v := .tuple #[.agg #[x, y], v]) (by simp [results, Try.results50, go_sem, h6, h7, hbox.1, hbox.2.1]) hd hQ
theorem islit_yes (n : Int) (w : World) (h0 : 1 ≤ n) (h1 : n ≤ 4) : Calls Try.prog 65 #[.int .i64 n] w fun e w' => e = .returned (.bool true) ∧ w = w' :=
  (islittle_any n w).mono fun e w' ⟨he, hw⟩ => ⟨by rw [he]; simp; omega, hw⟩
theorem islit_no (n : Int) (w : World) (h : n < 1 ∨ 4 < n) : Calls Try.prog 65 #[.int .i64 n] w fun e w' => e = .returned (.bool false) ∧ w = w' :=
  (islittle_any n w).mono fun e w' ⟨he, hw⟩ => ⟨by rw [he]; simp; omega, hw⟩
def LitRel (w : World) (g : Nat) (s : ByteArray) (f : Int) (v t : Nat) (i : Value) (wr : World) : Prop :=
  ∃ k : Nat, k ≤ t ∧ i = .int .i64 k ∧ BRow wr g ((B.le t v).take k ++ List.replicate (t - k) 0) ∧ Box wr w.heap.size (.string s) (.int .i64 f) ∧ Box wr (w.heap.size + 1) (.string ⟨#[]⟩) (.int .i64 0) ∧ Below w.heap.size w wr
theorem le_full (t v : Nat) : (B.le t v).take t ++ List.replicate (t - t) (0 : UInt8) = B.le t v := by
  rw [Nat.sub_self, List.replicate_zero, List.append_nil, List.take_of_length_le (by rw [B.le_len]; omega)]
theorem le_step (g t V k : Nat) (w : World) (hk : k < t) (h : BRow w g ((B.le t V).take k ++ List.replicate (t - k) 0)) :
    BRow (w.setCell ⟨g, k, none⟩ (.int .u8 ((V : Int) / 2 ^ (8 * k) % 256))) g ((B.le t V).take (k + 1) ++ List.replicate (t - (k + 1)) 0) := by
  have hl := B.le_len t V
  have hk' : k < (B.le t V).length := by omega
  rw [← list_step (B.le t V) t k hl hk hk']
  have e : (V : Int) / 2 ^ (8 * k) % 256 = ((B.le t V)[k].toNat : Int) := by rw [B.le_get t V k hk hk', div_pow]; omega
  rw [e]
  exact h.set (by simp [hl]; omega) _
def ltR (s : ByteArray) (v n : Nat) : Value := .tuple #[.agg #[.string (s ++ bs (B.le n v)), .int .i64 0], .int .i64 0]
def ltOk (v n : Int) : Bool := decide (1 ≤ n) && decide (n ≤ 4) && decide (0 ≤ v) && decide (v.toNat < B.P2 (8 * n.toNat))
theorem putlittle_bad (s : ByteArray) (f v n : Int) (w : World) (h : n < 1 ∨ 4 < n ∨ v < 0) :
    Calls Try.prog 50 #[.agg #[.string s, .int .i64 f], .int .i64 v, .int .i64 n] w fun e w' => e = .returned errW ∧ Below w.heap.size w w' := by
  have HH := Lib.hid (box2_now w (.string s) (.int .i64 f) (.string ⟨#[]⟩) (.int .i64 0) 40 40).2.2
  by_cases hn : n < 1 ∨ 4 < n
  · have HN := Lib.hid hn
    clear hn h
    go_enter Try.func50, Try.ntmps50
    go_wp2_with fail
    refine (islit_no n _ HN.out).mono ?_
    rintro e w1 ⟨rfl, rfl⟩
    go_wp2_with fail
    exact bodyPost_ret (v := errW) (by simp [results, Try.results50, go_sem, errW]) rfl ⟨rfl, HH.out⟩
  · have hv : v < 0 := by omega
    have n0 : 1 ≤ n := by omega
    have n1 : n ≤ 4 := by omega
    clear hn h
    go_enter Try.func50, Try.ntmps50
    go_wp2_with fail
    refine (islit_yes n _ n0 n1).mono ?_
    rintro e w1 ⟨rfl, rfl⟩
    go_wp2_with fail
    exact bodyPost_ret (v := errW) (by simp [results, Try.results50, go_sem, errW]) rfl ⟨rfl, HH.out⟩
set_option maxHeartbeats 1000000 in
theorem putlittle_nat (s : ByteArray) (f : Int) (v n : Nat) (w : World) (hs : s.size ≤ 1099511627776) (n0 : 1 ≤ n) (hn : n ≤ 4) :
    Calls Try.prog 50 #[.agg #[.string s, .int .i64 f], .int .i64 v, .int .i64 n] w fun e w' => e = .returned (if v < B.P2 (8 * n) then ltR s v n else errW) ∧ Below w.heap.size w w' := by
  have hpb : B.P2 (8 * n) ≤ 4294967296 := B.P2_le (b := 32) (by omega)
  have e2 : wrap64 (2 ^ (8 * n)) = (B.P2 (8 * n) : Int) := by rw [P2_cast]; exact i64_id _ (by omega) (by omega)
  by_cases hv : v < B.P2 (8 * n)
  · rw [if_pos hv]
    have hb : decide (wrap64 (2 ^ (8 * n)) ≤ (v : Int)) = false := by rw [e2]; simp; omega
    have hv2 : v < 4294967296 := by omega
    clear e2 hpb
    have HV := Lib.hid hv
    clear hv
    obtain ⟨C, D, H⟩ := box2_now w (.string s) (.int .i64 f) (.string ⟨#[]⟩) (.int .i64 0) 40 40
    go_enter Try.func50, Try.ntmps50
    go_wp2_with fail
    refine (islit_yes n _ (by omega) (by omega)).mono ?_
    rintro e w1 ⟨rfl, rfl⟩
    go_upto_region 3 with (fail)
    generalize (w.alloc (.cells #[.string s, .int .i64 f] 40)).alloc (.cells #[.string ⟨#[]⟩, .int .i64 0] 40) = w1 at C D H ⊢
    have hz : w.heap.size + 1 < w1.heap.size := D.2.2.2.2
    have hmk := made_bytes (n : Int) n rfl (by omega) w1
    have BM := Lib.hid (brow_made w1 n)
    have HMB := Lib.hid (bq_alloc (bq_refl w1) (.cells (madeCells #[.int .u8 0] n) 5))
    generalize w1.alloc (.cells (madeCells #[.int .u8 0] n) 5) = W at hmk BM HMB
    have CC := Lib.hid (C.keep HMB.out)
    have DD := Lib.hid (D.keep HMB.out)
    have H2 := Lib.hid (bq_trans H HMB.out)
    clear C D H
    go_wp2_with fail
    clear hmk
    go_loopw [29] (fun i wr => LitRel w w1.heap.size s f v n i wr) (fun i _ => n - (intOf i).toNat)
    case atStart => exact ⟨0, by omega, rfl, by simpa using BM.out, CC.out, DD.out, H2.out⟩
    case round =>
      obtain ⟨k, hk, rfl, hrow, hc0, hd0, hbel⟩ := hrel
      by_cases hlt : k < n
      · have hkl : k < ((B.le n v).take k ++ List.replicate (n - k) (0 : UInt8)).length := by simp [B.le_len]; omega
        have hc := (hrow.2 k hkl).1
        have hf := (hrow.2 k hkl).2
        have HR := Lib.hid (le_step w1.heap.size n v k wr hlt hrow)
        have HC := Lib.hid hc0
        have HD := Lib.hid hd0
        have HBEL := Lib.hid hbel
        clear hrow hc0 hd0 hbel
        go_wp2
        go_roundw
        case rel => exact ⟨k + 1, by omega, by go_num, HR.out, HC.out.far (by simp; omega) _, HD.out.far (by simp; omega) _, bq_set HBEL.out _ (by simp; omega) _⟩
        case measure => simp [intOf]; omega
      · obtain rfl : k = n := by omega
        rw [le_full] at hrow
        have hconv := hrow.str k
        rw [B.le_len] at hconv
        have hsz : (bs (B.le k v)).size ≤ 1099511627776 := by rw [bs_size, B.le_len]; omega
        have HP := Lib.hid (fun w => putbytes_any s (bs (B.le k v)) f w hs hsz)
        generalize htl : bs (B.le k v) = tl at HP hconv hsz
        have HTL := Lib.hid htl
        clear htl
        have HD := Lib.hid hd0
        have HBEL := Lib.hid hbel
        obtain ⟨c0, c1, f0, f1, cz⟩ := hc0
        clear hrow hbel hd0
        go_wp2_with fail
        refine (HP.out _).mono ?_
        rintro e w2 ⟨rfl, hb2⟩
        obtain ⟨d0, d1, g0, g1, hz'⟩ := HD.out.keep hb2
        have H3 := Lib.hid (bq_trans HBEL.out hb2)
        clear hb2
        go_wp2_with fail
        exact putlittle_post ((Box.set0 ⟨d0, d1, g0, g1, hz'⟩ _).set1 _) rfl rfl rfl ⟨by rw [ltR, HTL.out]; rfl, bq_set (bq_set H3.out _ (by simp) _) _ (by simp) _⟩
  · rw [if_neg hv]
    have hb : decide (wrap64 (2 ^ (8 * n)) ≤ (v : Int)) = true := by rw [e2]; simp; omega
    clear e2
    go_enter Try.func50, Try.ntmps50
    go_wp2_with fail
    refine (islit_yes n _ (by omega) (by omega)).mono ?_
    rintro e w1 ⟨rfl, rfl⟩
    go_wp2_with fail
    exact bodyPost_ret (v := errW) (by simp [results, Try.results50, go_sem, errW]) rfl ⟨rfl, (box2_now w _ _ _ _ _ _).2.2⟩
theorem putlittle_any (s : ByteArray) (f v n : Int) (w : World) (hs : s.size ≤ 1099511627776) :
    Calls Try.prog 50 #[.agg #[.string s, .int .i64 f], .int .i64 v, .int .i64 n] w fun e w' => e = .returned (if ltOk v n = true then ltR s v.toNat n.toNat else errW) ∧ Below w.heap.size w w' := by
  by_cases h : 1 ≤ n ∧ n ≤ 4 ∧ 0 ≤ v
  · obtain ⟨N, rfl⟩ := Int.eq_ofNat_of_zero_le (show 0 ≤ n by omega)
    obtain ⟨V, rfl⟩ := Int.eq_ofNat_of_zero_le h.2.2
    have hp := putlittle_nat s f V N w hs (by omega) (by omega)
    have e : ltOk V N = decide (V < B.P2 (8 * N)) := by simp [ltOk]; omega
    rw [e]
    simpa using hp
  · have e : ltOk v n = false := by
      unfold ltOk
      by_cases h1 : 1 ≤ n <;> by_cases h2 : n ≤ 4 <;> by_cases h3 : 0 ≤ v <;> simp [h1, h2, h3] <;> exact absurd ⟨h1, h2, h3⟩ h
    rw [e]
    exact putlittle_bad s f v n w (by omega)
end Go.Proofs.Ythlnjipefeglpaa
namespace Go.Proofs.Ythlnjipefeglpaa
open Go.RowKit
set_option linter.unusedVariables false
theorem islittle_yes (n : Int) (w : World) (h0 : 1 ≤ n) (h1 : n ≤ 4) : Calls Try.prog 65 #[.int .i64 n] w fun e w' => e = .returned (.bool true) ∧ w = w' :=
  (islittle_any n w).mono fun e w' ⟨he, hw⟩ => ⟨by rw [he]; simp; omega, hw⟩
theorem islittle_no (n : Int) (w : World) (h : n < 1 ∨ 4 < n) : Calls Try.prog 65 #[.int .i64 n] w fun e w' => e = .returned (.bool false) ∧ w = w' :=
  (islittle_any n w).mono fun e w' ⟨he, hw⟩ => ⟨by rw [he]; simp; omega, hw⟩
theorem little_post {Q : Ending → World → Prop} {a : Act} {W : World} {g : Nat} {x y u v : Value} (hbox : Box W g x y) (h4 : a.tmps[4]?.getD undef = u) (h5 : a.tmps[5]?.getD undef = .pointer (some ⟨g, 0, none⟩)) (h6 : a.tmps[6]?.getD undef = v)
    (hd : a.defers = []) (hQ : Q (.returned (.tuple #[u, .agg #[x, y], v])) W) : bodyPost Try.prog Try.f75 Q Exit.ret a W :=
  bodyPost_ret (v := .tuple #[u, .agg #[x, y], v]) (by simp [results, Try.results75, go_sem, h4, h5, h6, hbox.1, hbox.2.1]) hd hQ
theorem little_bad (s : ByteArray) (a n : Int) (w : World) (h : n < 1 ∨ 4 < n) :
    Calls Try.prog 75 #[.agg #[.string s, .int .i64 a], .int .i64 n] w fun e w' => e = .returned (errR 1) ∧ Below w.heap.size w w' := by
  have H := Lib.hid h
  clear h
  go_enter Try.func75, Try.ntmps75
  go_wp2_with fail
  refine (islittle_no n _ H.out).mono ?_
  rintro e w1 ⟨rfl, rfl⟩
  go_wp2_with fail
  exact bodyPost_ret (v := errR 1) (by simp [results, Try.results75, go_sem, errR]) rfl ⟨rfl, bq_alloc (bq_alloc (bq_refl w) _) _⟩
theorem quiet_same {P : Program} {f : FuncId} {args : Array Value} {w : World} {n : Nat} {v : Value}
    (h : Calls P f args (w.drewN n) fun e w' => e = .returned v ∧ w.drewN n = w') : Calls P f args (w.drewN n) fun e w'' => e = .returned v ∧ ∃ m, w'' = w.drewN m :=
  h.mono fun _ _ ⟨he, hm⟩ => ⟨he, n, hm.symm⟩
def LiRel (t : ByteArray) (v i : Value) : Prop := ∃ k x : Nat, k ≤ t.size ∧ i = .int .i64 k ∧ v = .int .i64 (x : Int) ∧ x = B.lv (t.data.toList.take k)
theorem or_shl (x k : Nat) (c : UInt8) (hk : k ≤ 3) (hx : x < B.P2 (8 * k)) : bits .or .i64 (x : Int) (wrap64 (wrap64 (c.toNat : Int) * 2 ^ (8 * k))) = ((x + c.toNat * B.P2 (8 * k) : Nat) : Int) := by
  have hc := c.toNat_lt
  have hp : B.P2 (8 * k) ≤ 16777216 := B.P2_le (b := 24) (by omega)
  have hm : c.toNat * B.P2 (8 * k) ≤ 256 * 16777216 := Nat.mul_le_mul (by omega) hp
  rw [P2_cast, i64_id (c.toNat : Int) (by omega) (by omega), show (c.toNat : Int) * (B.P2 (8 * k) : Int) = ((c.toNat * B.P2 (8 * k) : Nat) : Int) by push_cast; rfl, i64_id _ (by omega) (by omega)]
  have hj := nat_join (8 * k) (c.toNat * B.P2 (8 * k)) x (Nat.mul_mod_left _ _) hx
  rw [i64_or_nat _ _ (by omega) (by omega), Nat.or_comm, hj, Nat.add_comm]
set_option maxHeartbeats 1000000 in
theorem little_core (s t u : ByteArray) (a n A E : Int) (w : World) (h0 : 1 ≤ n) (h1 : n ≤ 4) (ht : t.size ≤ 4)
    (HP : Hid (∀ w, Calls Try.prog 76 #[.agg #[.string s, .int .i64 a], .int .i64 n] w fun e w' => e = .returned (.tuple #[.string t, .agg #[.string u, .int .i64 A], .int .i64 E]) ∧ Below w.heap.size w w')) :
    Calls Try.prog 75 #[.agg #[.string s, .int .i64 a], .int .i64 n] w fun e w' => e = .returned (.tuple #[.int .i64 (B.lv t.data.toList : Int), .agg #[.string u, .int .i64 A], .int .i64 E]) ∧ Below w.heap.size w w' := by
  go_enter Try.func75, Try.ntmps75
  go_wp2_with fail
  refine (islittle_yes n _ h0 h1).mono ?_
  rintro e w1 ⟨rfl, rfl⟩
  go_wp2_with fail
  refine (HP.out _).mono ?_
  rintro e w1 ⟨rfl, hb⟩
  obtain ⟨⟨c0, c1, f0, f1, cz⟩, ⟨d0, d1, g0, g1, hz⟩, H⟩ := box2_kept hb
  have H1 := Lib.hid H
  clear hb H
  go_wp2_with fail
  have BN := box_new w1 (.string u) (.int .i64 A) 46
  have BR := Box.alloc ⟨d0, d1, g0, g1, hz⟩ (.cells #[.string u, .int .i64 A] 46)
  have HB := Lib.hid (bq_alloc H1.out (.cells #[.string u, .int .i64 A] 46))
  generalize w1.alloc (.cells #[.string u, .int .i64 A] 46) = W at BN BR HB ⊢
  have ne1 : ¬ w.heap.size + 1 = w1.heap.size := by omega
  have ne2 : ¬ w1.heap.size = w.heap.size + 1 := by omega
  obtain ⟨p0, p1, _, _, _⟩ := BN
  obtain ⟨q0, q1, k0, k1, kz⟩ := BR
  clear c0 c1 f0 f1 cz d0 d1 g0 g1 H1
  go_loop [10, 25] (fun v i => LiRel t v i) (fun _ i => t.size - (intOf i).toNat)
  case atStart => exact ⟨0, 0, by omega, rfl, rfl, rfl⟩
  case round =>
    obtain ⟨k, x, hk, rfl, rfl, hx⟩ := hrel
    have hx2 : x < B.P2 (8 * k) := by rw [hx]; exact B.lv_take_lt _ _
    have hx3 : x < B.P2 32 := Nat.lt_of_lt_of_le hx2 (B.P2_le (by omega))
    have hx4 : x < 4294967296 := hx3
    have HX := Lib.hid hx
    have HX2 := Lib.hid hx2
    clear hx hx2 hx3
    by_cases hlt : k < t.size
    · have HO := Lib.hid (or_shl x k t[k] (by omega) HX2.out)
      have hstep := B.lv_take_succ t.data.toList k (by rw [bytes_length]; omega)
      rw [← HX.out, ← bytes_getElem t k hlt] at hstep
      have HS := Lib.hid hstep
      clear hstep
      go_wp2
      go_round
      case rel => exact ⟨k + 1, _, by omega, by go_num, by rw [HO.out], HS.out.symm⟩
      case measure => simp [intOf]; omega
    · obtain rfl : k = t.size := by omega
      have HL : Hid (B.lv t.data.toList = x) := Lib.hid (by rw [HX.out, B.lv_take_all _ _ (by rw [bytes_length]; omega)])
      go_wp2_with fail
      go_region_held3 (fun w' => w'.cell? ⟨w1.heap.size, 0, none⟩ = some (.string u) ∧ w'.cell? ⟨w1.heap.size, 1, none⟩ = some (.int .i64 A)) (go_keep) (fail)
      all_goals go_wp2
      exact little_post (((Box.drewN ⟨q0, q1, k0, k1, kz⟩ _).set0 _).set1 _) rfl rfl rfl rfl ⟨by rw [HL.out]; rfl, bq_set (bq_set (bq_drewN HB.out _) _ (by simp) _) _ (by simp) _⟩
def liR (s : ByteArray) (a n : Int) : Value := if 1 ≤ n ∧ n ≤ 4 then .tuple #[.int .i64 (B.lv (byB s a n).data.toList : Int), .agg #[.string (byS s a n), .int .i64 (byA s a n)], .int .i64 (byE s.size a n)] else errR 1
theorem byB_size (s : ByteArray) (a n : Int) (h : n ≤ 4) : (byB s a n).size ≤ 4 := by
  unfold byB
  split
  · rw [ByteArray.size_extract]; omega
  · exact Nat.zero_le _
theorem little_any (s : ByteArray) (a n : Int) (w : World) (hs : s.size ≤ 1099511627776) :
    Calls Try.prog 75 #[.agg #[.string s, .int .i64 a], .int .i64 n] w fun e w' => e = .returned (liR s a n) ∧ Below w.heap.size w w' := by
  by_cases h : 1 ≤ n ∧ n ≤ 4
  · rw [liR, if_pos h]; exact little_core s _ _ a n _ _ w h.1 h.2 (byB_size s a n h.2) (Lib.hid fun w => bytes_any s a n w hs)
  · rw [liR, if_neg h]; exact little_bad s a n w (by omega)
end Go.Proofs.Ythlnjipefeglpaa
