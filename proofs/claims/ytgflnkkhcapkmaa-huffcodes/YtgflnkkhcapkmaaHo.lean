import Derived.Test.YtgflnkkhcapkmaaHn
import Derived.ChangeKeysEq
import Derived.Laws.StructEq
/- Layer 4: lengths that may be a table; how many of each there are. -/
namespace Go.Proofs.Ytgflnkkhcapkmaa
open Go.RowKit
set_option linter.unusedVariables false
def MbRel (zs : List Int) (s i : Value) : Prop := ∃ k x : Nat, k ≤ 16 ∧ i = .int .i64 k ∧ s = .int .i64 (x : Int) ∧ x = Hf.sk zs k
theorem sk_bd (zs : List Int) (hl : zs.length ≤ 320) (k : Nat) : Hf.sk zs k ≤ 10485760 := by
  have h1 := Hf.sk_len zs k
  have h2 : zs.length * 32768 ≤ 320 * 32768 := Nat.mul_le_mul_right _ hl
  exact Nat.le_trans h1 h2
/-- just one code, of length 1 -/
def one1 (n : Nat) : Nat := if n = 1 then 1 else 0
theorem cells3 : Try.prog.cellsOf 3 = 1 := by kernel_rfl
theorem items16 (f g : Nat → Nat) (d : Nat) (w : World) : ∀ is : List Nat, (∀ i ∈ is, i < 16) → (Op.eqItems (d + 1) 3 1 (row16 f) (row16 g) is).run Try.prog w = .ok (is.all fun n => f n == g n) w
  | [], _ => by simp [Op.eqItems]
  | i :: is, h => by
    have hi : i < 16 := h i (by simp)
    have p1 : (part 3 (row16 f) (i * 1)).run Try.prog w = .ok (.int .i64 (f i : Int)) w := by simp [part, row16_at f i hi]
    have p2 : (part 3 (row16 g) (i * 1)).run Try.prog w = .ok (.int .i64 (g i : Int)) w := by simp [part, row16_at g i hi]
    have p3 : (Op.equalIn (d + 1) 3 (.int .i64 (f i : Int)) (.int .i64 (g i : Int))).run Try.prog w = .ok ((f i : Int) == (g i : Int)) w := run_equalIn_int w d 3 .i64 .i64 _ _ Try.underlying3
    have ih := items16 f g d w is (fun j hj => h j (by simp [hj]))
    simp only [Op.eqItems, Sem.run_bind, p1, p2, p3, Result.andThen_ok]
    by_cases e : f i = g i
    · rw [e]; simp [ih, e]
    · have e1 : ((f i : Int) == (g i : Int)) = false := by rw [beq_eq_false_iff_ne]; omega
      simp [e1, e]
theorem eq16 (f g : Nat → Nat) (w : World) : (Op.equalIn 10000 25 (.agg (row16 f)) (.agg (row16 g))).run Try.prog w = .ok ((List.range 16).all fun n => f n == g n) w := by
  have hi : ∃ i, Try.prog.info? 3 = some i := Option.isSome_iff_exists.1 (by kernel_rfl)
  obtain ⟨i, hi⟩ := hi
  rw [run_equalIn_array w 9999 (row16 f) (row16 g) Try.underlying25 hi, cells3]
  exact items16 f g 9998 w (List.range 16) (fun i h => by simpa using h)
theorem tab_one (zs : List Int) : ((List.range 16).all fun n => Hf.cn zs n == one1 n) = (Hf.st zs 16 == 1 && Hf.cn zs 1 == 1) := by
  rw [Bool.eq_iff_iff]
  simp only [List.all_eq_true, List.mem_range, beq_iff_eq, Bool.and_eq_true]
  rw [Hf.st_one]
  constructor
  · intro h
    exact ⟨h 1 (by omega), fun n h1 h2 => by rw [h n h1]; unfold one1; rw [if_neg h2]⟩
  · rintro ⟨h1, h2⟩ n hn
    unfold one1
    by_cases e : n = 1
    · subst e; rw [if_pos rfl]; exact h1
    · rw [if_neg e]; exact h2 n hn e
theorem shl_sum (zs : List Int) (hl : zs.length ≤ 320) (k x : Nat) (hk : k < 16) (hx : x = Hf.sk zs k) : wrap64 ((x : Int) + wrap64 ((Hf.cn zs k : Int) * 2 ^ (15 - k))) = ((Hf.sk zs (k + 1) : Nat) : Int) := by
  have h1 := sk_bd zs hl (k + 1)
  have e : (Hf.cn zs k : Int) * 2 ^ (15 - k) = ((Hf.cn zs k * B.P2 (15 - k) : Nat) : Int) := by unfold B.P2; push_cast; rfl
  have e2 : (x : Int) + ((Hf.cn zs k * B.P2 (15 - k) : Nat) : Int) = ((Hf.sk zs (k + 1) : Nat) : Int) := by rw [Hf.sk_succ, hx]; omega
  have h2 : Hf.cn zs k * B.P2 (15 - k) ≤ Hf.sk zs (k + 1) := by rw [Hf.sk_succ]; omega
  rw [e, i64_id ((Hf.cn zs k * B.P2 (15 - k) : Nat) : Int) (by omega) (by omega), e2, i64_id _ (by omega) (by omega)]
set_option maxHeartbeats 1000000 in
theorem maybe_any (zs : List Int) (w : World) (hl : zs.length ≤ 320) :
    Calls Try.prog 22 #[.agg (row16 (Hf.cn zs))] w fun e w' => e = .returned (.bool (Hf.tabB zs)) ∧ Below w.heap.size w w' := by
  go_enter Try.func22, Try.ntmps22
  go_wp2_with (first
    | (refine wl_box 25 _ _ rfl rfl rfl ?_; intro W1 b1 B1 l1 k1)
    | (refine wl_load 25 16 _ Try.underlying25 rfl size25 _ rfl rfl _ rfl _ _ (by assumption) (row16_size _) ?_))
  have HE := Lib.hid k1
  clear l1 k1
  go_loop [3, 7] (fun s i => MbRel zs s i) (fun _ i => 16 - (intOf i).toNat)
  case atStart => exact ⟨0, 0, by omega, rfl, rfl, rfl⟩
  case round =>
    obtain ⟨k, x, hk, rfl, rfl, hx⟩ := hrel
    have hx2 := sk_bd zs hl k
    rw [← hx] at hx2
    have HX := Lib.hid hx
    clear hx
    by_cases hlt : k < 16
    · have hcl := Hf.cn_len zs k
      have hix := row16_index (Hf.cn zs) k W1 hlt
      have HS := Lib.hid (shl_sum zs hl k x hlt HX.out)
      generalize Hf.cn zs k = y at *
      go_wp2
      rw [HS.out]
      go_round
      case rel => exact ⟨k + 1, _, by omega, by go_num, rfl, rfl⟩
      case measure => simp [intOf]; omega
    · obtain rfl : k = 16 := by omega
      by_cases e1 : x = 32768
      · have q1 : ((x : Int) == 32768) = true := by rw [beq_iff_eq]; omega
        have HT : Hid (Hf.tabB zs = true) := Lib.hid (by unfold Hf.tabB; rw [← HX.out, e1]; rfl)
        clear e1
        go_wp2
        go_ret
        exact ⟨ret_bool HT.out.symm, HE.out⟩
      · have q1 : ((x : Int) == 32768) = false := by rw [beq_eq_false_iff_ne]; omega
        have q1' : (x == 32768) = false := by rw [beq_eq_false_iff_ne]; exact e1
        by_cases e2 : x = 0
        · have q2 : ((x : Int) == 0) = true := by rw [beq_iff_eq]; omega
          have HT : Hid (Hf.tabB zs = true) := Lib.hid (by
            have := (Hf.sk_zero zs 16).1 (HX.out.symm.trans e2)
            unfold Hf.tabB; rw [← HX.out, this, q1']; rfl)
          subst e2
          clear q1'
          go_wp2
          go_ret
          exact ⟨ret_bool HT.out.symm, HE.out⟩
        · have q2 : ((x : Int) == 0) = false := by rw [beq_eq_false_iff_ne]; omega
          have HT : Hid (Hf.tabB zs = ((List.range 16).all fun n => Hf.cn zs n == one1 n)) := Lib.hid (by
            have : (Hf.st zs 16 == 0) = false := by
              rw [beq_eq_false_iff_ne]; intro h
              exact e2 (HX.out.trans ((Hf.sk_zero zs 16).2 h))
            unfold Hf.tabB; rw [← HX.out, this, q1', tab_one]; rfl)
          have heq : (Op.equalIn 10000 25 (.agg (row16 (Hf.cn zs))) (.agg #[Value.int IntKind.i64 0, Value.int IntKind.i64 1, Value.int IntKind.i64 0, Value.int IntKind.i64 0, Value.int IntKind.i64 0, Value.int IntKind.i64 0, Value.int IntKind.i64 0, Value.int IntKind.i64 0, Value.int IntKind.i64 0, Value.int IntKind.i64 0, Value.int IntKind.i64 0, Value.int IntKind.i64 0, Value.int IntKind.i64 0, Value.int IntKind.i64 0, Value.int IntKind.i64 0, Value.int IntKind.i64 0])).run Try.prog W1 = .ok ((List.range 16).all fun n => Hf.cn zs n == one1 n) W1 := eq16 (Hf.cn zs) one1 W1
          clear q1' e1 e2
          generalize ((List.range 16).all fun n => Hf.cn zs n == one1 n) = r at *
          go_wp2_with (refine wlg_load 25 16 _ Try.underlying25 rfl size25 _ rfl rfl _ rfl _ _ B1 (row16_size _) ?_)
          go_ret
          exact ⟨ret_bool HT.out.symm, HE.out⟩
end Go.Proofs.Ytgflnkkhcapkmaa
