import Derived.Test.YthlnjipefeglpaaZU0
import Derived.Lib.BitFns
import Derived.Test.YthlnjipefeglpaaZU2
import Derived.Test.YthlnjipefeglpaaZU1
namespace Go.Proofs.Ythlnjipefeglpaa
open Go.RowKit
set_option linter.unusedVariables false
theorem tab_size : Lib.len8tab.size = 256 := by decide +kernel
theorem tab_all : ∀ j : Fin 256, (Lib.len8tab[j.val]'(by rw [tab_size]; exact j.isLt)).toNat = Lib.bitLen j.val := by decide +kernel
theorem tab_at (i : Nat) (h : i < Lib.len8tab.size) : (Lib.len8tab[i]'h).toNat = Lib.bitLen i := tab_all ⟨i, by rw [tab_size] at h; exact h⟩
theorem tab_close (k : Nat) (y : Int) (X : Nat) (h : y.toNat < Lib.len8tab.size) (hk : k ≤ 56) (e : Lib.bitLen X = k + Lib.bitLen y.toNat) :
    wrap64 ((k : Int) + wrap64 ((Lib.len8tab[y.toNat]'h).toNat : Int)) = (Lib.bitLen X : Int) := by
  have h8 : Lib.bitLen y.toNat ≤ 8 := Lib.bitLen_le8 ⟨y.toNat, by rw [tab_size] at h; exact h⟩
  rw [tab_at _ h, e]
  unfold wrap64
  omega
set_option maxHeartbeats 4000000 in
set_option maxRecDepth 100000 in
theorem len64_any (x : Int) (w : World) (h0 : 0 ≤ x) (h1 : x ≤ 18446744073709551615) :
    Calls Try.prog 108 #[.int .u64 x] w fun e w' => e = .returned (.int .i64 (Lib.bitLen x.toNat)) ∧ w = w' := by
  have hsz : (Lib.len8tab.size : Int) = 256 := by rw [tab_size]; rfl
  go_enter Try.func108, Try.ntmps108
  go_wp2
  all_goals (go_ret; refine ⟨ret_int ?_, rfl⟩)
  · exact tab_close 56 _ _ _ (by omega) (by rw [show (x / 4294967296 / 65536 / 256).toNat = x.toNat / 72057594037927936 from by omega]; exact Lib.bitLen_shift56 _ (by omega) (by omega))
  · exact tab_close 48 _ _ _ (by omega) (by rw [show (x / 4294967296 / 65536).toNat = x.toNat / 281474976710656 from by omega]; exact Lib.bitLen_shift48 _ (by omega) (by omega))
  · exact tab_close 40 _ _ _ (by omega) (by rw [show (x / 4294967296 / 256).toNat = x.toNat / 1099511627776 from by omega]; exact Lib.bitLen_shift40 _ (by omega) (by omega))
  · exact tab_close 32 _ _ _ (by omega) (by rw [show (x / 4294967296).toNat = x.toNat / 4294967296 from by omega]; exact Lib.bitLen_shift32 _ (by omega) (by omega))
  · exact tab_close 24 _ _ _ (by omega) (by rw [show (x / 65536 / 256).toNat = x.toNat / 16777216 from by omega]; exact Lib.bitLen_shift24 _ (by omega) (by omega))
  · exact tab_close 16 _ _ _ (by omega) (by rw [show (x / 65536).toNat = x.toNat / 65536 from by omega]; exact Lib.bitLen_shift16 _ (by omega) (by omega))
  · exact tab_close 8 _ _ _ (by omega) (by rw [show (x / 256).toNat = x.toNat / 256 from by omega]; exact Lib.bitLen_shift8 _ (by omega) (by omega))
  · have := tab_close 0 x x.toNat (by rw [tab_size]; omega) (by omega) (by omega)
    rw [← this]
    simp
theorem bitLen_pos (x : Nat) (h : 0 < x) (hx : x < 2 ^ 64) : 1 ≤ Lib.bitLen x := by rw [Lib.bitLen_half x (by omega) hx]; omega
theorem bitLen_ge (x k : Nat) (h : B.P2 k ≤ x) (hx : x < 2 ^ 64) : k + 1 ≤ Lib.bitLen x := by
  rw [Lib.bitLen_shift k x h hx]
  have h1 : 0 < x / 2 ^ k := Nat.div_pos h (Nat.two_pow_pos k)
  have h2 : x / 2 ^ k < 2 ^ 64 := Nat.lt_of_le_of_lt (Nat.div_le_self _ _) hx
  have := bitLen_pos _ h1 h2
  omega
theorem bitLen_iff (x k : Nat) (hk : k ≤ 64) (hx : x < 2 ^ 64) : Lib.bitLen x ≤ k ↔ x < B.P2 k := by
  constructor
  · intro h
    apply Nat.lt_of_not_le
    intro h2
    have := bitLen_ge x k h2 hx
    omega
  · intro h; exact Lib.bitLen_le x k hk h
def mag (v : Int) : Nat := if v < 0 then (-v - 1).toNat else v.toNat
def wd (v : Int) : Nat := if v = 0 then 0 else Lib.bitLen (mag v) + 1
def pw (v : Int) : Nat := Lib.bitLen v.toNat
theorem mag_lt (v : Int) (h0 : -9223372036854775808 ≤ v) (h1 : v ≤ 9223372036854775807) : mag v < 9223372036854775808 := by unfold mag; split <;> omega
theorem mag_fits (v : Int) (p : Nat) : mag v < p ↔ -(p : Int) ≤ v ∧ v < p := by unfold mag; split <;> omega
theorem wd_iff (v : Int) (n : Nat) (hv : v ≠ 0) (h0 : -9223372036854775808 ≤ v) (h1 : v ≤ 9223372036854775807) (hn : n ≤ 63) : wd v ≤ n + 1 ↔ -(B.P2 n : Int) ≤ v ∧ v < B.P2 n := by
  have hm := mag_lt v h0 h1
  rw [← mag_fits, ← bitLen_iff (mag v) n (by omega) (by omega), wd, if_neg hv]
  omega
theorem wd_le (v : Int) (h0 : -9223372036854775808 ≤ v) (h1 : v ≤ 9223372036854775807) : wd v ≤ 64 := by
  unfold wd
  split
  · omega
  · have hm := mag_lt v h0 h1
    have := (bitLen_iff (mag v) 63 (by omega) (by omega)).2 hm
    omega
theorem wd_pos (v : Int) (hv : v ≠ 0) : 1 ≤ wd v := by unfold wd; rw [if_neg hv]; omega
theorem wd_zero : wd 0 = 0 := rfl
theorem xor_neg1 (v : Int) (h0 : -9223372036854775808 ≤ v) (h1 : v ≤ 9223372036854775807) : bits .xor .i64 (-1) v = -v - 1 := by
  show IntKind.i64.wrap ((BitVec.ofInt 64 (-1) ^^^ BitVec.ofInt 64 v).toNat : Int) = _
  have e1 : BitVec.ofInt 64 (-1) = BitVec.allOnes 64 := by decide
  rw [e1, BitVec.allOnes_xor, BitVec.toNat_not, BitVec.toNat_ofInt, IntKind.wrap_i64]
  have e2 : ((2 ^ 64 : Nat) : Int) = 18446744073709551616 := rfl
  have e3 : (2 : Nat) ^ 64 = 18446744073709551616 := rfl
  rw [e2, e3]
  omega
theorem u64_wrap (x : Int) (h0 : 0 ≤ x) (h1 : x ≤ 18446744073709551615) : IntKind.u64.wrap x = x := by rw [IntKind.wrap_u64]; omega
theorem width_any (v : Int) (w : World) (h0 : -9223372036854775808 ≤ v) (h1 : v ≤ 9223372036854775807) :
    Calls Try.prog 101 #[.int .i64 v] w fun e w' => e = .returned (.int .i64 (wd v : Int)) ∧ w = w' := by
  have hw := wd_le v h0 h1
  by_cases hp : 0 < v
  · have HE : Hid (Lib.bitLen v.toNat + 1 = wd v) := Lib.hid (by unfold wd mag; rw [if_neg (by omega), if_neg (by omega)])
    have hb : Lib.bitLen v.toNat ≤ 64 := by have := HE.out; omega
    have HL := fun w => len64_any v w (by omega) (by omega)
    generalize Lib.bitLen v.toNat = y at *
    have HL2 := Lib.hid HL
    clear HL
    go_enter Try.func101, Try.ntmps101
    go_wp2_with (go_at_call 108; refine (HL2.out _).mono ?_; rintro e w' ⟨rfl, rfl⟩)
    go_ret
    exact ⟨ret_int (by have := HE.out; omega), rfl⟩
  · by_cases hn : v < 0
    · have HE : Hid (Lib.bitLen (-v - 1).toNat + 1 = wd v) := Lib.hid (by unfold wd mag; rw [if_neg (by omega), if_pos (by omega)])
      have hb : Lib.bitLen (-v - 1).toNat ≤ 64 := by have := HE.out; omega
      have HL := fun w => len64_any (-v - 1) w (by omega) (by omega)
      generalize Lib.bitLen (-v - 1).toNat = y at *
      have HL2 := Lib.hid HL
      clear HL
      go_enter Try.func101, Try.ntmps101
      go_wp2_with fail
      rw [xor_neg1 v h0 h1, u64_wrap _ (by omega) (by omega)]
      refine (HL2.out _).mono ?_
      rintro e w' ⟨rfl, rfl⟩
      go_wp2
      go_ret
      exact ⟨ret_int (by have := HE.out; omega), rfl⟩
    · obtain rfl : v = 0 := by omega
      go_enter Try.func101, Try.ntmps101
      go_wp2
      go_ret
      exact ⟨rfl, rfl⟩
def WdRel (v : Int) (n : Value) : Prop := ∃ k : Nat, k ≤ wd v ∧ n = .int .i64 k
set_option maxHeartbeats 1000000 in
theorem refwidth_any (v : Int) (w : World) (h0 : -9223372036854775808 ≤ v) (h1 : v ≤ 9223372036854775807) :
    Calls Try.prog 88 #[.int .i64 v] w fun e w' => e = .returned (.int .i64 (wd v : Int)) ∧ w = w' := by
  have hw := wd_le v h0 h1
  have HI := Lib.hid (wd_iff v)
  go_enter Try.func88, Try.ntmps88
  go_wp2
  go_loop [3] (fun n => WdRel v n) (fun n => 65 - (intOf n).toNat)
  case atStart => exact ⟨0, by omega, rfl⟩
  case round =>
    obtain ⟨k, hk, rfl⟩ := hrel
    by_cases hv : v = 0
    · subst hv
      rw [wd_zero] at hk
      obtain rfl : k = 0 := by omega
      clear HI
      go_wp2
      go_ret
      exact ⟨rfl, rfl⟩
    · have hvb : (v != 0) = true := by rw [bne_iff_ne]; exact hv
      by_cases k0 : k = 0
      · subst k0
        have hwp := wd_pos v hv
        clear HI
        go_wp2
        go_round
        case rel => exact ⟨1, by omega, rfl⟩
        case measure => simp [intOf]
      · by_cases k64 : k = 64
        · subst k64
          have HZ : Hid (wd v = 64) := Lib.hid (by omega)
          clear HI
          go_wp2
          go_ret
          exact ⟨ret_int (by rw [HZ.out]; rfl), rfl⟩
        · by_cases k63 : k = 63
          · subst k63
            have hi := HI.out 62 hv h0 h1 (by omega)
            have h62 : B.P2 62 = 4611686018427387904 := rfl
            rw [h62] at hi
            clear HI h62
            by_cases hf : -4611686018427387904 ≤ v
            · by_cases hg : v < 4611686018427387904
              · have HZ : Hid (wd v = 63) := Lib.hid (by have := hi.2 ⟨hf, hg⟩; omega)
                clear hi
                go_wp2
                go_ret
                exact ⟨ret_int (by rw [HZ.out]; rfl), rfl⟩
              · have HZ : Hid (64 ≤ wd v) := Lib.hid (by apply Nat.le_of_not_lt; intro h; have := (hi.1 (by omega)).2; omega)
                clear hi
                go_wp2
                go_round
                case rel => exact ⟨64, HZ.out, rfl⟩
                case measure => simp [intOf]
            · have HZ : Hid (64 ≤ wd v) := Lib.hid (by apply Nat.le_of_not_lt; intro h; have := (hi.1 (by omega)).1; omega)
              clear hi
              go_wp2
              go_round
              case rel => exact ⟨64, HZ.out, rfl⟩
              case measure => simp [intOf]
          · have k1 : 1 ≤ k := by omega
            have k2 : k ≤ 62 := by omega
            have hi := HI.out (k - 1) hv h0 h1 (by omega)
            rw [show k - 1 + 1 = k by omega] at hi
            have HP := fun w => power_any (k - 1) w (by omega)
            rw [show ((k - 1 : Nat) : Int) = (k : Int) - 1 by omega] at HP
            have hpb : B.P2 (k - 1) ≤ 4611686018427387904 := P2_bd (by omega)
            generalize B.P2 (k - 1) = y at *
            have HP2 := Lib.hid HP
            have e63 : ((k : Int) == 63) = false := by rw [beq_eq_false_iff_ne]; omega
            clear HI HP k0 k64 k63
            by_cases hf : -(y : Int) ≤ v
            · by_cases hg : v < y
              · have HZ : Hid (wd v = k) := Lib.hid (by have := hi.2 ⟨hf, hg⟩; omega)
                clear hi
                go_wp2_with (go_at_call 82; refine (HP2.out _).mono ?_; rintro e w' ⟨rfl, rfl⟩)
                go_ret
                exact ⟨ret_int (by rw [HZ.out]), rfl⟩
              · have hgb : decide (v < (y : Int)) = false := by simp; omega
                have HZ : Hid (k + 1 ≤ wd v) := Lib.hid (by apply Nat.le_of_not_lt; intro h; have := (hi.1 (by omega)).2; omega)
                clear hi
                go_wp2_with (go_at_call 82; refine (HP2.out _).mono ?_; rintro e w' ⟨rfl, rfl⟩)
                go_round
                case rel => exact ⟨k + 1, HZ.out, by go_num⟩
                case measure => simp [intOf]; omega
            · have hgb : decide (-(y : Int) ≤ v) = false := by simp; omega
              have HZ : Hid (k + 1 ≤ wd v) := Lib.hid (by apply Nat.le_of_not_lt; intro h; have := (hi.1 (by omega)).1; omega)
              clear hi
              go_wp2_with (go_at_call 82; refine (HP2.out _).mono ?_; rintro e w' ⟨rfl, rfl⟩)
              go_round
              case rel => exact ⟨k + 1, HZ.out, by go_num⟩
              case measure => simp [intOf]; omega
end Go.Proofs.Ythlnjipefeglpaa
namespace Go.Proofs.Ythlnjipefeglpaa
open Go.RowKit
set_option linter.unusedVariables false
def nf (s : ByteArray) (f : Int) : Nat := if 0 < f ∧ f ≤ 7 ∧ 0 < s.size ∧ B.bv s.data.toList % B.P2 f.toNat = 0 then f.toNat else 0
theorem nf_of_snd (s : ByteArray) (f : Nat) (h : B.Snd s.data.toList f) : nf s f = f := by
  unfold nf
  have h2 := h.2.1
  rw [bytes_length] at h2
  by_cases e : f = 0
  · subst e; rw [if_neg (by omega)]
  · rw [if_pos ⟨by omega, by have := h.1; omega, by omega, by rw [Int.toNat_natCast]; exact h.2.2⟩, Int.toNat_natCast]
theorem last_mod_bs (s : ByteArray) (m : Nat) (hm : m < s.size) (hm2 : s.size ≤ m + 1) (f : Nat) (hf : f ≤ 8) : B.bv s.data.toList % B.P2 f = s[m].toNat % B.P2 f := by
  have e := B.last_mod (s.data.toList.take m) s[m] f hf
  rw [← split_last s m hm hm2] at e
  exact e
theorem put_any (s : ByteArray) (f : Int) (v n : Nat) (w : World) (hs : s.size ≤ 1099511627776) (hn : n ≤ 31) (hv : v < B.P2 n) :
    Calls Try.prog 100 #[.agg #[.string s, .int .i64 f], .int .i64 v, .int .i64 n] w fun e w' => e = .returned (.agg #[.string (bs (B.putL s.data.toList (nf s f) v n)), .int .i64 (B.putF s.size (nf s f) n : Int)]) ∧ Below w.heap.size w w' := by
  have hv2 : v < 2147483648 := Nat.lt_of_lt_of_le hv (B.P2_le (b := 31) hn)
  by_cases h0 : f = 0
  · subst h0
    rw [show nf s 0 = 0 from rfl]
    exact put_zero s v n w hs hn hv2 (Lib.hid hv)
  by_cases h1 : f < 0 ∨ 7 < f
  · rw [show nf s f = 0 by unfold nf; rw [if_neg (by omega)]]
    exact put_unsound s f v n w hs hn hv2 (Lib.hid hv) (Lib.hid fun w => sound_out s f w h1)
  by_cases h2 : s.size = 0
  · rw [show nf s f = 0 by unfold nf; rw [if_neg (by omega)]]
    exact put_unsound s f v n w hs hn hv2 (Lib.hid hv) (Lib.hid fun w => sound_empty s f w (by omega) (by omega) h2)
  obtain ⟨F, rfl⟩ := Int.eq_ofNat_of_zero_le (show 0 ≤ f by omega)
  obtain ⟨m, hm⟩ : ∃ m, m + 1 = s.size := ⟨s.size - 1, by omega⟩
  have e := last_mod_bs s m (by omega) (by omega) F (by omega)
  have HS := fun w => sound_last s F m w (by omega) (by omega) (by omega) (by omega) hs
  rw [← e] at HS
  by_cases h3 : B.bv s.data.toList % B.P2 F = 0
  · rw [show nf s F = F by unfold nf; rw [if_pos ⟨by omega, by omega, by omega, h3⟩]; rfl]
    rw [decide_eq_true h3] at HS
    exact put_part s F m v n w hs hn hv2 (Lib.hid hv) (by omega) (by omega) (by omega) (by omega) (Lib.hid HS)
  · rw [show nf s F = 0 by unfold nf; rw [if_neg (by intro k; exact h3 k.2.2.2)]]
    rw [decide_eq_false h3] at HS
    exact put_unsound s F v n w hs hn hv2 (Lib.hid hv) (Lib.hid HS)
theorem putplain_post {Q : Ending → World → Prop} {a : Act} {W : World} {g : Nat} {x y v : Value} (hbox : Box W g x y) (h6 : a.tmps[6]?.getD undef = .pointer (some ⟨g, 0, none⟩)) (h7 : a.tmps[7]?.getD undef = v)
    (hd : a.defers = []) (hQ : Q (.returned (.tuple #[.agg #[x, y], v])) W) : bodyPost Try.prog Try.f84 Q Exit.ret a W :=
  bodyPost_ret (v := .tuple #[.agg #[x, y], v]) (by simp [results, Try.results84, go_sem, h6, h7, hbox.1, hbox.2.1]) hd hQ
theorem putsigned_post {Q : Ending → World → Prop} {a : Act} {W : World} {g : Nat} {x y v : Value} (hbox : Box W g x y) (h6 : a.tmps[6]?.getD undef = .pointer (some ⟨g, 0, none⟩)) (h7 : a.tmps[7]?.getD undef = v)
    (hd : a.defers = []) (hQ : Q (.returned (.tuple #[.agg #[x, y], v])) W) : bodyPost Try.prog Try.f86 Q Exit.ret a W :=
  bodyPost_ret (v := .tuple #[.agg #[x, y], v]) (by simp [results, Try.results86, go_sem, h6, h7, hbox.1, hbox.2.1]) hd hQ
def errW : Value := .tuple #[.agg #[.string ⟨#[]⟩, .int .i64 0], .int .i64 1]
theorem box2_now (w : World) (x y x' y' : Value) (t t' : TypeId) : Box ((w.alloc (.cells #[x, y] t)).alloc (.cells #[x', y'] t')) w.heap.size x y ∧ Box ((w.alloc (.cells #[x, y] t)).alloc (.cells #[x', y'] t')) (w.heap.size + 1) x' y' ∧ Below w.heap.size w ((w.alloc (.cells #[x, y] t)).alloc (.cells #[x', y'] t')) :=
  box2_kept (bq_refl _)
theorem putplain_bad (s : ByteArray) (f v n : Int) (w : World) (h : n < 0 ∨ 31 < n ∨ v < 0) :
    Calls Try.prog 84 #[.agg #[.string s, .int .i64 f], .int .i64 v, .int .i64 n] w fun e w' => e = .returned errW ∧ Below w.heap.size w w' := by
  obtain ⟨C, D, H⟩ := box2_now w (.string s) (.int .i64 f) (.string ⟨#[]⟩) (.int .i64 0) 40 40
  have HC := Lib.hid C
  have HD := Lib.hid D
  have HH := Lib.hid H
  clear C D H
  by_cases hn : n < 0 ∨ 31 < n
  · have HN := Lib.hid hn
    clear hn h
    go_enter Try.func84, Try.ntmps84
    go_wp2_with fail
    refine (isfield_no n _ HN.out).mono ?_
    rintro e w1 ⟨rfl, rfl⟩
    go_wp2_with fail
    exact bodyPost_ret (v := errW) (by simp [results, Try.results84, go_sem, errW]) rfl ⟨rfl, HH.out⟩
  · have hv : v < 0 := by omega
    have n0 : 0 ≤ n := by omega
    have n1 : n ≤ 31 := by omega
    clear hn h
    go_enter Try.func84, Try.ntmps84
    go_wp2_with fail
    refine (isfield_yes n _ n0 n1).mono ?_
    rintro e w1 ⟨rfl, rfl⟩
    go_wp2_with fail
    exact bodyPost_ret (v := errW) (by simp [results, Try.results84, go_sem, errW]) rfl ⟨rfl, HH.out⟩
theorem putplain_nat (s : ByteArray) (f : Int) (v n : Nat) (w : World) (hs : s.size ≤ 1099511627776) (hn : n ≤ 31) :
    Calls Try.prog 84 #[.agg #[.string s, .int .i64 f], .int .i64 v, .int .i64 n] w fun e w' =>
      e = .returned (if v < B.P2 n then .tuple #[.agg #[.string (bs (B.putL s.data.toList (nf s f) v n)), .int .i64 (B.putF s.size (nf s f) n : Int)], .int .i64 0] else errW) ∧ Below w.heap.size w w' := by
  have hpb : B.P2 n ≤ 2147483648 := B.P2_le (b := 31) hn
  have e2 : wrap64 (2 ^ n) = (B.P2 n : Int) := by rw [P2_cast]; exact i64_id _ (by omega) (by omega)
  by_cases hv : v < B.P2 n
  · rw [if_pos hv]
    have HP := Lib.hid (fun w => put_any s f v n w hs hn hv)
    have hb : decide (wrap64 (2 ^ n) ≤ (v : Int)) = false := by rw [e2]; simp; omega
    clear e2
    go_enter Try.func84, Try.ntmps84
    go_wp2_with fail
    refine (isfield_yes n _ (by omega) (by omega)).mono ?_
    rintro e w1 ⟨rfl, rfl⟩
    go_wp2_with fail
    refine (HP.out _).mono ?_
    rintro e w1 ⟨rfl, hb1⟩
    obtain ⟨⟨c0, c1, f0, f1, cz⟩, ⟨d0, d1, g0, g1, hz⟩, H⟩ := box2_kept hb1
    have H1 := Lib.hid H
    clear hb1 H
    go_wp2_with fail
    exact putplain_post ((Box.set0 ⟨d0, d1, g0, g1, hz⟩ _).set1 _) rfl rfl rfl ⟨rfl, bq_set (bq_set H1.out _ (by simp) _) _ (by simp) _⟩
  · rw [if_neg hv]
    have hb : decide (wrap64 (2 ^ n) ≤ (v : Int)) = true := by rw [e2]; simp; omega
    clear e2
    go_enter Try.func84, Try.ntmps84
    go_wp2_with fail
    refine (isfield_yes n _ (by omega) (by omega)).mono ?_
    rintro e w1 ⟨rfl, rfl⟩
    go_wp2_with fail
    exact bodyPost_ret (v := errW) (by simp [results, Try.results84, go_sem, errW]) rfl ⟨rfl, (box2_now w _ _ _ _ _ _).2.2⟩
def ppR (s : ByteArray) (f : Int) (v n : Nat) : Value := .tuple #[.agg #[.string (bs (B.putL s.data.toList (nf s f) v n)), .int .i64 (B.putF s.size (nf s f) n : Int)], .int .i64 0]
def ppOk (v n : Int) : Bool := decide (0 ≤ n) && decide (n ≤ 31) && decide (0 ≤ v) && decide (v.toNat < B.P2 n.toNat)
theorem putplain_any (s : ByteArray) (f v n : Int) (w : World) (hs : s.size ≤ 1099511627776) :
    Calls Try.prog 84 #[.agg #[.string s, .int .i64 f], .int .i64 v, .int .i64 n] w fun e w' => e = .returned (if ppOk v n = true then ppR s f v.toNat n.toNat else errW) ∧ Below w.heap.size w w' := by
  by_cases h : 0 ≤ n ∧ n ≤ 31 ∧ 0 ≤ v
  · obtain ⟨N, rfl⟩ := Int.eq_ofNat_of_zero_le h.1
    obtain ⟨V, rfl⟩ := Int.eq_ofNat_of_zero_le h.2.2
    have hp := putplain_nat s f V N w hs (by omega)
    have e : ppOk V N = decide (V < B.P2 N) := by simp [ppOk]; omega
    rw [e]
    simpa [ppR] using hp
  · have e : ppOk v n = false := by
      unfold ppOk
      by_cases h1 : 0 ≤ n <;> by_cases h2 : n ≤ 31 <;> by_cases h3 : 0 ≤ v <;> simp [h1, h2, h3] <;> exact absurd ⟨h1, h2, h3⟩ h
    rw [e]
    exact putplain_bad s f v n w (by omega)
theorem putsigned_bad (s : ByteArray) (f v n : Int) (w : World) (v0 : -9223372036854775808 ≤ v) (v1 : v ≤ 9223372036854775807) (h : n < 0 ∨ 31 < n ∨ n < wd v) :
    Calls Try.prog 86 #[.agg #[.string s, .int .i64 f], .int .i64 v, .int .i64 n] w fun e w' => e = .returned errW ∧ Below w.heap.size w w' := by
  have HH := Lib.hid (box2_now w (.string s) (.int .i64 f) (.string ⟨#[]⟩) (.int .i64 0) 40 40).2.2
  by_cases hn : n < 0 ∨ 31 < n
  · have HN := Lib.hid hn
    clear hn h
    go_enter Try.func86, Try.ntmps86
    go_wp2_with fail
    refine (isfield_no n _ HN.out).mono ?_
    rintro e w1 ⟨rfl, rfl⟩
    go_wp2_with fail
    exact bodyPost_ret (v := errW) (by simp [results, Try.results86, go_sem, errW]) rfl ⟨rfl, HH.out⟩
  · have hv : n < wd v := by omega
    have n0 : 0 ≤ n := by omega
    have n1 : n ≤ 31 := by omega
    have HW := Lib.hid (fun w => width_any v w v0 v1)
    generalize wd v = y at *
    clear hn h
    go_enter Try.func86, Try.ntmps86
    go_wp2_with fail
    refine (isfield_yes n _ n0 n1).mono ?_
    rintro e w1 ⟨rfl, rfl⟩
    go_wp2_with fail
    refine (HW.out _).mono ?_
    rintro e w1 ⟨rfl, rfl⟩
    go_wp2_with fail
    exact bodyPost_ret (v := errW) (by simp [results, Try.results86, go_sem, errW]) rfl ⟨rfl, HH.out⟩
theorem putsigned_ok (s : ByteArray) (f v : Int) (u n : Nat) (w : World) (hs : s.size ≤ 1099511627776) (v0 : -9223372036854775808 ≤ v) (v1 : v ≤ 9223372036854775807) (hn : n ≤ 31) (hw : wd v ≤ n)
    (hu : u < B.P2 n) (HU : Hid (v < 0 ∧ wrap64 (v + wrap64 (2 ^ n)) = u ∨ 0 ≤ v ∧ v = u)) :
    Calls Try.prog 86 #[.agg #[.string s, .int .i64 f], .int .i64 v, .int .i64 n] w fun e w' => e = .returned (ppR s f u n) ∧ Below w.heap.size w w' := by
  have HP := Lib.hid (fun w => put_any s f u n w hs hn hu)
  have HW := Lib.hid (fun w => width_any v w v0 v1)
  generalize wd v = y at *
  clear hu
  unfold ppR
  rcases HU.out with ⟨hv, hw2⟩ | ⟨hv, hw2⟩
  · have HW2 := Lib.hid hw2
    clear hw2 HU
    go_enter Try.func86, Try.ntmps86
    go_wp2_with fail
    refine (isfield_yes n _ (by omega) (by omega)).mono ?_
    rintro e w1 ⟨rfl, rfl⟩
    go_wp2_with fail
    refine (HW.out _).mono ?_
    rintro e w1 ⟨rfl, rfl⟩
    go_wp2_with fail
    rw [HW2.out]
    refine (HP.out _).mono ?_
    rintro e w1 ⟨rfl, hb1⟩
    obtain ⟨⟨c0, c1, f0, f1, cz⟩, ⟨d0, d1, g0, g1, hz⟩, H⟩ := box2_kept hb1
    have H1 := Lib.hid H
    clear hb1 H
    go_wp2_with fail
    exact putsigned_post ((Box.set0 ⟨d0, d1, g0, g1, hz⟩ _).set1 _) rfl rfl rfl ⟨rfl, bq_set (bq_set H1.out _ (by simp) _) _ (by simp) _⟩
  · subst hw2
    clear HU
    go_enter Try.func86, Try.ntmps86
    go_wp2_with fail
    refine (isfield_yes n _ (by omega) (by omega)).mono ?_
    rintro e w1 ⟨rfl, rfl⟩
    go_wp2_with fail
    refine (HW.out _).mono ?_
    rintro e w1 ⟨rfl, rfl⟩
    go_wp2_with fail
    refine (HP.out _).mono ?_
    rintro e w1 ⟨rfl, hb1⟩
    obtain ⟨⟨c0, c1, f0, f1, cz⟩, ⟨d0, d1, g0, g1, hz⟩, H⟩ := box2_kept hb1
    have H1 := Lib.hid H
    clear hb1 H
    go_wp2_with fail
    exact putsigned_post ((Box.set0 ⟨d0, d1, g0, g1, hz⟩ _).set1 _) rfl rfl rfl ⟨rfl, bq_set (bq_set H1.out _ (by simp) _) _ (by simp) _⟩
def sgU (v : Int) (n : Nat) : Nat := if v < 0 then (v + B.P2 n).toNat else v.toNat
def psOk (v n : Int) : Bool := decide (0 ≤ n) && decide (n ≤ 31) && decide ((wd v : Int) ≤ n)
theorem sgU_lt (v : Int) (n : Nat) (v0 : -9223372036854775808 ≤ v) (v1 : v ≤ 9223372036854775807) (hn : n ≤ 31) (hw : wd v ≤ n) : sgU v n < B.P2 n ∧ (v < 0 → -(B.P2 n : Int) ≤ 2 * v) ∧ (0 ≤ v → 2 * v < B.P2 n) := by
  by_cases h0 : v = 0
  · subst h0; exact ⟨B.P2_pos n, by omega, by have := B.P2_pos n; omega⟩
  · have hp := wd_pos v h0
    have hi := (wd_iff v (n - 1) h0 v0 v1 (by omega)).1 (by omega)
    have hP := B.P2_succ (n - 1)
    rw [show n - 1 + 1 = n by omega] at hP
    unfold sgU
    split <;> omega
theorem putsigned_any (s : ByteArray) (f v n : Int) (w : World) (hs : s.size ≤ 1099511627776) (v0 : -9223372036854775808 ≤ v) (v1 : v ≤ 9223372036854775807) :
    Calls Try.prog 86 #[.agg #[.string s, .int .i64 f], .int .i64 v, .int .i64 n] w fun e w' => e = .returned (if psOk v n = true then ppR s f (sgU v n.toNat) n.toNat else errW) ∧ Below w.heap.size w w' := by
  by_cases h : 0 ≤ n ∧ n ≤ 31 ∧ (wd v : Int) ≤ n
  · obtain ⟨N, rfl⟩ := Int.eq_ofNat_of_zero_le h.1
    have e : psOk v N = true := by simp [psOk]; omega
    rw [e, if_pos rfl]
    have hu := (sgU_lt v N v0 v1 (by omega) (by omega))
    have hpb : B.P2 N ≤ 2147483648 := B.P2_le (b := 31) (by omega)
    have e2 : wrap64 (2 ^ N) = (B.P2 N : Int) := by rw [P2_cast]; exact i64_id _ (by omega) (by omega)
    refine putsigned_ok s f v (sgU v N) N w hs v0 v1 (by omega) (by omega) hu.1 (Lib.hid ?_)
    rw [e2]
    unfold sgU
    by_cases hv : v < 0
    · left
      have := hu.2.1 hv
      rw [if_pos hv, i64_id _ (by omega) (by omega)]
      omega
    · right
      rw [if_neg hv]
      omega
  · have e : psOk v n = false := by
      unfold psOk
      by_cases h1 : 0 ≤ n <;> by_cases h2 : n ≤ 31 <;> by_cases h3 : (wd v : Int) ≤ n <;> simp [h1, h2, h3] <;> exact absurd ⟨h1, h2, h3⟩ h
    rw [e]
    exact putsigned_bad s f v n w v0 v1 (by omega)
end Go.Proofs.Ythlnjipefeglpaa
namespace Go.Proofs.Ythlnjipefeglpaa
open Go.RowKit
set_option linter.unusedVariables false
def RPRel (s : ByteArray) (a n : Nat) (v i : Value) : Prop := ∃ k x : Nat, k ≤ n ∧ i = .int .i64 k ∧ v = .int .i64 (x : Int) ∧ x = B.fld s.data.toList a k
attribute [local go_sem ↓] Go.wp_at_zero Go.wp_at_succ
end Go.Proofs.Ythlnjipefeglpaa
