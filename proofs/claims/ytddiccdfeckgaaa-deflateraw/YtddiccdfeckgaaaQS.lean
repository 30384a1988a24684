import Derived.Test.YtddiccdfeckgaaaQL
import Derived.Test.YtddiccdfeckgaaaH1
import Derived.Laws.MakeOwn
import Derived.Deep.QuietTactic
import Derived.BigQuiet
import Derived.OwnWalk
/- Layer 6: the document's codes, fixed lengths, lengths and distances, in a seat without layers 4 and 5. -/
namespace Go.Proofs.Ytddiccdfeckgaaa
open Go.RowKit
set_option maxRecDepth 100000
set_option linter.unusedVariables false
set_option linter.unusedSimpArgs false
/-- so far: f below k, 0 from k on -/
def upto (f : Nat → Nat) (k n : Nat) : Nat := if n < k then f n else 0
/-- numbers that a slice reads as -/
def Ints (w : World) (zs : List Int) (a : Option Addr) (b o : Nat) : Prop :=
  (zs.length = 0 ∨ a = some ⟨b, o, none⟩) ∧ (∀ i (h : i < zs.length), -9223372036854775808 ≤ zs[i] ∧ zs[i] ≤ 9223372036854775807) ∧ ∀ i (h : i < zs.length), w.cell? ⟨b, o + i, none⟩ = some (.int .i64 zs[i])
theorem Ints.lt {w : World} {zs : List Int} {a : Option Addr} {b o : Nat} (h : Ints w zs a b o) (h0 : 0 < zs.length) : b < w.heap.size := block_lt_of_cell (h.2.2 0 h0)
theorem Ints.keep {w w' : World} {zs : List Int} {a : Option Addr} {b o : Nat} (h : Ints w zs a b o) (hb : Below w.heap.size w w') : Ints w' zs a b o :=
  ⟨h.1, h.2.1, fun i hi => by rw [hb.cell (p := ⟨b, o + i, none⟩) (h.lt (by omega))]; exact h.2.2 i hi⟩
theorem Ints.at {w w' : World} {zs : List Int} {a : Option Addr} {b o : Nat} (h : Ints w zs a b o) (hb : Below w.heap.size w w') (i : Nat) (hi : i < zs.length) : a = some ⟨b, o, none⟩ ∧ -9223372036854775808 ≤ zs[i] ∧ zs[i] ≤ 9223372036854775807 ∧ w'.cell? ⟨b, o + i, none⟩ = some (.int .i64 zs[i]) :=
  ⟨h.1.resolve_left (by omega), (h.2.1 i hi).1, (h.2.1 i hi).2, (h.keep hb).2.2 i hi⟩
/-- n numbers -/
def intA (f : Nat → Nat) (n : Nat) : Array Value := ((List.range n).map fun i => Value.int .i64 (f i : Int)).toArray
theorem intA_size (f : Nat → Nat) (n : Nat) : (intA f n).size = n := by simp [intA]
theorem intA_at (f : Nat → Nat) (n k : Nat) (h : k < n) : (intA f n)[k]? = some (.int .i64 (f k : Int)) := by simp [intA, h]
theorem intA_congr (f g : Nat → Nat) (n : Nat) (h : ∀ i, i < n → f i = g i) : intA f n = intA g n := by
  unfold intA
  apply Array.ext
  · simp
  · intro i h1 h2
    simp only [List.size_toArray, List.length_map, List.length_range] at h1
    simp [h i h1]
theorem intA_set (f : Nat → Nat) (n k v : Nat) : (intA f n).setIfInBounds k (.int .i64 (v : Int)) = intA (fun i => if i = k then v else f i) n := by
  apply Array.ext
  · simp [intA]
  · intro i h1 h2
    simp only [Array.size_setIfInBounds] at h1
    rw [Array.getElem_setIfInBounds h1]
    simp only [intA, List.getElem_toArray, List.getElem_map, List.getElem_range]
    by_cases e : k = i
    · subst e; simp
    · rw [if_neg e, if_neg (by omega)]
theorem intA_zero (n : Nat) : Array.replicate n (Value.int .i64 0) = intA (fun _ => 0) n := by
  apply Array.ext
  · simp [intA]
  · intro i h1 h2
    simp [intA]
theorem info3 : (Try.prog.info? 3).map (fun i => (i.zero, i.size, i.bytes)) = some (some (.int .i64 0), 1, 8) := by kernel_rfl
section
variable {ops : Array Oper} {rest : List Oper} {o : Oper} {a : Act} {w : World} {Q : Exit → Act → World → Prop}
theorem wl_ints (l c : Operand) (ho : o.op = .makeSlice 42 l c) (hgd : o.guard = none) (n : Nat) (hl : a.eval l = .int .i64 (n : Int)) (hcc : a.eval c = .int .i64 (n : Int)) (hn : n ≤ 1000000)
    (h : ∀ W b, Blk W b (intA (fun _ => 0) n) 3 → w.heap.size ≤ b → Below w.heap.size w W → wpList Try.prog ops Q rest (a.put o.dst (.slice (some ⟨b, 0, none⟩) n n)) W) : wpList Try.prog ops Q (o :: rest) a w := by
  have hi := info3
  cases hq : Try.prog.info? 3 with
  | none => rw [hq] at hi; cases hi
  | some i =>
    rw [hq] at hi
    simp only [Option.map_some, Option.some.injEq, Prod.mk.injEq] at hi
    refine wl_make 42 3 i (.int .i64 0) Try.underlying42 hq hi.1 hi.2.1 (by omega) rfl l c ho hgd n hl hcc hn ?_
    rw [intA_zero]
    exact h
end
theorem cd_step (zs : List Int) (k : Nat) : (intA (upto (Hf.cd zs) k) zs.length).setIfInBounds k (.int .i64 (Hf.cd zs k : Int)) = intA (upto (Hf.cd zs) (k + 1)) zs.length := by
  rw [intA_set]
  apply intA_congr
  intro n hn
  unfold upto
  by_cases h : n = k
  · subst h; rw [if_pos rfl, if_pos (by omega)]
  · rw [if_neg h]
    by_cases h2 : n < k
    · rw [if_pos h2, if_pos (by omega)]
    · rw [if_neg h2, if_neg (by omega)]
theorem cd_skip (zs : List Int) (k : Nat) (h : k < zs.length) (h0 : zs[k] = 0) : intA (upto (Hf.cd zs) k) zs.length = intA (upto (Hf.cd zs) (k + 1)) zs.length := by
  apply intA_congr
  intro n hn
  unfold upto
  by_cases e : n = k
  · subst e; rw [if_neg (by omega), if_pos (by omega), Hf.cd_zero zs n h h0]
  · by_cases h2 : n < k
    · rw [if_pos h2, if_pos (by omega)]
    · rw [if_neg h2, if_neg (by omega)]
theorem up_start (f : Nat → Nat) (n : Nat) : intA (upto f 0) n = intA (fun _ => 0) n := intA_congr _ _ _ (fun i _ => by unfold upto; rw [if_neg (by omega)])
theorem up_end (f : Nat → Nat) (n : Nat) : intA (upto f n) n = intA f n := intA_congr _ _ _ (fun i h => by unfold upto; rw [if_pos h])
theorem half_div (x k : Nat) : x / B.P2 k / 2 = x / B.P2 (k + 1) := by rw [Nat.div_div_eq_div_mul, B.P2_succ, Nat.mul_comm]
def HvRel (m : Nat) (p j : Value) : Prop := ∃ i y : Nat, i ≤ m ∧ j = .int .i64 i ∧ p = .int .i64 (y : Int) ∧ y = B.P2 (15 - i) ∧ y ≤ 32768
theorem hv_step (i m : Nat) (h : i < m) (hm : m ≤ 15) : B.P2 (15 - i) / 2 = B.P2 (15 - (i + 1)) := by
  rw [show 15 - i = (15 - (i + 1)) + 1 by omega, B.P2_succ]; omega
def RcRel (zs : List Int) (w : World) (b : Nat) (i : Value) (wr : World) : Prop :=
  ∃ k : Nat, k ≤ zs.length ∧ i = .int .i64 k ∧ Blk wr b (intA (upto (Hf.cd zs) k) zs.length) 3 ∧ Below w.heap.size w wr
def AhRel (zs : List Int) (w : World) (b k : Nat) (n : Int) (s j : Value) (wr : World) : Prop :=
  ∃ i x : Nat, i ≤ zs.length ∧ j = .int .i64 i ∧ s = .int .i64 (x : Int) ∧ x = Hf.ah zs n k i ∧ Blk wr b (intA (upto (Hf.cd zs) k) zs.length) 3 ∧ Below w.heap.size w wr
def HsRel (X n : Nat) (s j : Value) : Prop := ∃ i y : Nat, n ≤ i ∧ i ≤ 15 ∧ j = .int .i64 i ∧ s = .int .i64 (y : Int) ∧ y = X / B.P2 (i - n) ∧ y ≤ 10485760
theorem ah_bd (zs : List Int) (hl : zs.length ≤ 320) (n : Int) (k i : Nat) (h : i ≤ zs.length) : Hf.ah zs n k i ≤ 10485760 := by
  have h1 := Hf.ah_le zs n k i
  have h2 : i * 32768 ≤ 320 * 32768 := Nat.mul_le_mul_right _ (by omega)
  exact Nat.le_trans h1 h2
theorem ah_next (zs : List Int) (n : Int) (k i : Nat) (h : i < zs.length) : Hf.ah zs n k (i + 1) = Hf.ah zs n k i + if 0 < zs[i] ∧ (zs[i] < n ∨ zs[i] = n ∧ i < k) then B.P2 (15 - zs[i].toNat) else 0 := by
  rw [Hf.ah, Hf.getD_eq zs i h]
theorem hs_step (X i n : Nat) (h : n ≤ i) : X / B.P2 (i - n) / 2 = X / B.P2 (i + 1 - n) := by
  rw [half_div]; congr 2; omega
def RcPost (zs : List Int) (w : World) (e : Ending) (w' : World) : Prop :=
  ∃ b, w.heap.size ≤ b ∧ Blk w' b (intA (Hf.cd zs) zs.length) 3 ∧ e = .returned (.slice (some ⟨b, 0, none⟩) zs.length zs.length) ∧ Below w.heap.size w w'
set_option maxHeartbeats 4000000 in
set_option maxRecDepth 100000 in
theorem rcodes_any (zs : List Int) (a : Option Addr) (b o c : Nat) (w : World) (hl : zs.length ≤ 320) (hin : Hid (Hf.inR zs)) (ha : Hid (Ints w zs a b o)) :
    Calls Try.prog 28 #[.slice a zs.length c] w fun e w' => RcPost zs w e w' := by
  go_enter Try.func28, Try.ntmps28
  go_wp2_with (refine wl_ints _ _ rfl rfl zs.length rfl rfl (by omega) ?_; intro W8 b8 B8 l8 k8)
  have HE := Lib.hid k8
  clear k8
  go_loopw [4] (fun i wr => RcRel zs w b8 i wr) (fun i _ => zs.length - (intOf i).toNat)
  case atStart => exact ⟨0, by omega, rfl, by rw [up_start]; exact B8, HE.out⟩
  case round =>
    obtain ⟨k, hk, rfl, hb8, hbel⟩ := hrel
    have HB := Lib.hid hbel
    clear hbel B8 HE
    by_cases hlt : k < zs.length
    · obtain ⟨rfl, hz0, hz1, hcell⟩ := ha.out.at HB.out k hlt
      have hik := hin.out k hlt
      obtain ⟨z, hz⟩ : ∃ z, z = zs[k] := ⟨_, rfl⟩
      rw [← hz] at hz0 hz1 hcell hik
      have HZ := Lib.hid hz
      clear hz
      by_cases c0 : z = 0
      · subst c0
        rw [cd_skip zs k hlt HZ.out.symm] at hb8
        go_wp2
        go_roundw
        case rel => exact ⟨k + 1, by omega, by go_num, hb8, HB.out⟩
        case measure => simp [intOf]; omega
      · obtain ⟨n, rfl⟩ : ∃ n : Nat, z = (n : Int) := ⟨z.toNat, by omega⟩
        have t0 : ((n : Int) == 0) = false := by rw [beq_eq_false_iff_ne]; omega
        have hn1 : 1 ≤ n := by omega
        have hn2 : n ≤ 15 := by omega
        clear c0 hik hz0 hz1
        go_wp2_with fail
        have HC := Lib.hid hcell
        clear hcell
        go_loopw [5, 6] (fun s j w2 => AhRel zs w b8 k n s j w2) (fun _ j _ => zs.length - (intOf j).toNat)
        case atStart => exact ⟨0, 0, by omega, rfl, rfl, rfl, hb8, HB.out⟩
        case round =>
          obtain ⟨i, x, hi, rfl, rfl, hx, hb8, hbel⟩ := hrel
          have bx := ah_bd zs hl n k i hi
          rw [← hx] at bx
          have HX := Lib.hid hx
          have HB2 := Lib.hid hbel
          clear hx hbel HC HB
          have hck := (ha.out.at HB2.out k hlt).2.2.2
          rw [← HZ.out] at hck
          by_cases hil : i < zs.length
          · have hci := (ha.out.at HB2.out i hil).2.2.2
            have hri := hin.out i hil
            have hst := ah_next zs n k i hil
            rw [← HX.out] at hst
            obtain ⟨v, hv⟩ : ∃ v, v = zs[i] := ⟨_, rfl⟩
            rw [← hv] at hci hri hst
            clear hv HX
            obtain ⟨m, rfl⟩ : ∃ m : Nat, v = (m : Int) := ⟨v.toNat, by omega⟩
            have hm : m ≤ 15 := by omega
            clear hri
            by_cases c1 : 0 < m
            · have d1 : decide (0 < (m : Int)) = true := by simp; omega
              by_cases c2 : m < n
              · have d2 : decide (m < n) = true := by simp; omega
                have HS : Hid (Hf.ah zs n k (i + 1) = x + B.P2 (15 - m)) := Lib.hid (by rw [hst, if_pos (by omega)]; rfl)
                clear hst
                go_wp2_with fail
                go_quiet (fail)
                go_wp2_with fail
                go_loop [7, 8] (fun p j => HvRel m p j) (fun _ j => m - (intOf j).toNat)
                case atStart => exact ⟨0, 32768, by omega, rfl, rfl, rfl, by omega⟩
                case round =>
                  obtain ⟨r, y, hr, rfl, rfl, hy, hy2⟩ := hrel
                  have HY := Lib.hid hy
                  clear hy
                  by_cases hrl : r < m
                  · go_wp2
                    go_round
                    case rel => exact ⟨r + 1, y / 2, by omega, by go_num, by go_num, by rw [HY.out]; exact hv_step r m hrl hm, by omega⟩
                    case measure => simp [intOf]; omega
                  · obtain rfl : r = m := by omega
                    go_wp2
                    go_roundw
                    case rel => exact ⟨i + 1, x + y, by omega, by go_num, by go_num, by rw [HS.out, HY.out], hb8.drewN _, bq_drewN HB2.out _⟩
                    case measure => simp [intOf]; omega
              · have d2 : decide (m < n) = false := by simp; omega
                by_cases c3 : m = n
                · subst c3
                  by_cases c4 : i < k
                  · have d4 : decide (i < k) = true := by simp; omega
                    have HS : Hid (Hf.ah zs m k (i + 1) = x + B.P2 (15 - m)) := Lib.hid (by rw [hst, if_pos (by omega)]; rfl)
                    clear hst
                    go_wp2_with fail
                    go_quiet (fail)
                    go_wp2_with fail
                    go_loop [7, 8] (fun p j => HvRel m p j) (fun _ j => m - (intOf j).toNat)
                    case atStart => exact ⟨0, 32768, by omega, rfl, rfl, rfl, by omega⟩
                    case round =>
                      obtain ⟨r, y, hr, rfl, rfl, hy, hy2⟩ := hrel
                      have HY := Lib.hid hy
                      clear hy
                      by_cases hrl : r < m
                      · go_wp2
                        go_round
                        case rel => exact ⟨r + 1, y / 2, by omega, by go_num, by go_num, by rw [HY.out]; exact hv_step r m hrl hm, by omega⟩
                        case measure => simp [intOf]; omega
                      · obtain rfl : r = m := by omega
                        go_wp2
                        go_roundw
                        case rel => exact ⟨i + 1, x + y, by omega, by go_num, by go_num, by rw [HS.out, HY.out], hb8.drewN _, bq_drewN HB2.out _⟩
                        case measure => simp [intOf]; omega
                  · have d4 : decide (i < k) = false := by simp; omega
                    have HS : Hid (Hf.ah zs m k (i + 1) = x) := Lib.hid (by rw [hst, if_neg (by omega)]; rfl)
                    clear hst
                    go_wp2_with fail
                    go_quiet (fail)
                    go_wp2
                    go_roundw
                    case rel => exact ⟨i + 1, x, by omega, by go_num, rfl, HS.out.symm, hb8.drewN _, bq_drewN HB2.out _⟩
                    case measure => simp [intOf]; omega
                · have d3 : ((m : Int) == (n : Int)) = false := by rw [beq_eq_false_iff_ne]; omega
                  have d3n : (m == n) = false := by rw [beq_eq_false_iff_ne]; omega
                  have HS : Hid (Hf.ah zs n k (i + 1) = x) := Lib.hid (by rw [hst, if_neg (by omega)]; rfl)
                  clear hst
                  go_wp2_with fail
                  go_quiet (fail)
                  go_wp2
                  go_roundw
                  case rel => exact ⟨i + 1, x, by omega, by go_num, rfl, HS.out.symm, hb8.drewN _, bq_drewN HB2.out _⟩
                  case measure => simp [intOf]; omega
            · have d1 : decide (0 < (m : Int)) = false := by simp; omega
              have HS : Hid (Hf.ah zs n k (i + 1) = x) := Lib.hid (by rw [hst, if_neg (by omega)]; rfl)
              clear hst
              go_wp2_with fail
              go_quiet (fail)
              go_wp2
              go_roundw
              case rel => exact ⟨i + 1, x, by omega, by go_num, rfl, HS.out.symm, hb8.drewN _, bq_drewN HB2.out _⟩
              case measure => simp [intOf]; omega
          · obtain rfl : i = zs.length := by omega
            have hcd := Hf.ah_cd zs k hlt (by rw [← HZ.out]; omega) (by rw [← HZ.out]; omega)
            rw [← HZ.out, ← HX.out, Int.toNat_natCast] at hcd
            have HCD := Lib.hid hcd
            clear hcd HX
            go_wp2_with fail
            go_loop [5, 9] (fun s j => HsRel x n s j) (fun _ j => 15 - (intOf j).toNat)
            case atStart => exact ⟨n, x, by omega, by omega, rfl, rfl, by rw [Nat.sub_self, B.P2_zero, Nat.div_one], bx⟩
            case round =>
              obtain ⟨r, y, hr, hr2, rfl, rfl, hy, hy2⟩ := hrel
              have HY := Lib.hid hy
              clear hy
              by_cases hrl : r < 15
              · go_wp2
                go_round
                case rel => exact ⟨r + 1, y / 2, by omega, by omega, by go_num, by go_num, by rw [HY.out]; exact hs_step x r n hr, by omega⟩
                case measure => simp [intOf]; omega
              · obtain rfl : r = 15 := by omega
                have hcell8 := (hb8.cell k).trans (intA_at _ _ k hlt)
                have hf8 := hb8.frozen k
                have HS := Lib.hid (hb8.set k (.int .i64 (Hf.cd zs k : Int)))
                rw [cd_step, ← HCD.out, ← HY.out] at HS
                generalize upto (Hf.cd zs) k k = q at *
                clear hb8
                go_wp2
                go_roundw
                case rel => exact ⟨k + 1, by omega, by go_num, HS.out, bq_set HB2.out _ l8 _⟩
                case measure => simp [intOf]; omega
    · obtain rfl : k = zs.length := by omega
      rw [up_end] at hb8
      go_wp2
      go_ret
      exact ⟨b8, l8, hb8, rfl, HB.out⟩
namespace I
/-- the lengths of copies, by their symbol less 257: the least, and how many bits follow -/
def lenT : List (Nat × Nat) := [(3, 0), (4, 0), (5, 0), (6, 0), (7, 0), (8, 0), (9, 0), (10, 0), (11, 1), (13, 1), (15, 1), (17, 1), (19, 2), (23, 2), (27, 2), (31, 2), (35, 3), (43, 3), (51, 3), (59, 3), (67, 4), (83, 4), (99, 4), (115, 4), (131, 5), (163, 5), (195, 5), (227, 5), (258, 0)]
/-- the distances, by their symbol -/
def dstT : List (Nat × Nat) := [(1, 0), (2, 0), (3, 0), (4, 0), (5, 1), (7, 1), (9, 2), (13, 2), (17, 3), (25, 3), (33, 4), (49, 4), (65, 5), (97, 5), (129, 6), (193, 6), (257, 7), (385, 7), (513, 8), (769, 8), (1025, 9), (1537, 9), (2049, 10), (3073, 10), (4097, 11), (6145, 11), (8193, 12), (12289, 12), (16385, 13), (24577, 13)]
def ln (k : Nat) : Nat × Nat := lenT.getD k (0, 0)
def ds (k : Nat) : Nat × Nat := dstT.getD k (0, 0)
/-- the lengths of the fixed codes -/
def fixA : List Int := List.replicate 144 8 ++ List.replicate 112 9 ++ List.replicate 24 7 ++ List.replicate 8 8
def fixD : List Int := List.replicate 32 5
end I
theorem ln_small (m : Nat) (h : m < 8) : I.ln m = (m + 3, 0) := by
  have : ∀ m : Fin 8, I.ln m = ((m : Nat) + 3, 0) := by decide
  exact this ⟨m, h⟩
theorem ln_loop (m : Nat) (h0 : 8 ≤ m) (h : m < 28) : I.ln m = ((4 + m % 4) * B.P2 (m / 4 - 1) + 3, m / 4 - 1) := by
  have : ∀ m : Fin 28, 8 ≤ (m : Nat) → I.ln m = ((4 + (m : Nat) % 4) * B.P2 ((m : Nat) / 4 - 1) + 3, (m : Nat) / 4 - 1) := by decide
  exact this ⟨m, h⟩ h0
theorem ds_small (m : Nat) (h : m < 4) : I.ds m = (m + 1, 0) := by
  have : ∀ m : Fin 4, I.ds m = ((m : Nat) + 1, 0) := by decide
  exact this ⟨m, h⟩
theorem ds_loop (m : Nat) (h0 : 4 ≤ m) (h : m < 30) : I.ds m = ((2 + m % 2) * B.P2 (m / 2 - 1) + 1, m / 2 - 1) := by
  have : ∀ m : Fin 30, 4 ≤ (m : Nat) → I.ds m = ((2 + (m : Nat) % 2) * B.P2 ((m : Nat) / 2 - 1) + 1, (m : Nat) / 2 - 1) := by decide
  exact this ⟨m, h⟩ h0
def DbRel (c bits : Nat) (t i : Value) : Prop := ∃ k : Nat, k ≤ bits ∧ i = .int .i64 (k : Int) ∧ t = .int .i64 ((c * B.P2 k : Nat) : Int)
set_option maxHeartbeats 1000000 in
theorem rlen_any (N m : Nat) (w : World) (hN : N = m + 257) (hm : m < 29) : Calls Try.prog 30 #[.int .i64 (N : Int)] w fun e w' => e = .returned (.tuple #[.int .i64 ((I.ln m).1 : Int), .int .i64 ((I.ln m).2 : Int)]) ∧ w = w' := by
  have hsub : (N : Int) - 257 = (m : Int) := by omega
  have hN2 : N ≤ 300 := by omega
  clear hN
  by_cases c1 : m < 8
  · rw [ln_small m c1]
    go_enter Try.func30, Try.ntmps30
    go_wp2
    go_ret2
    exact ⟨by simp, rfl⟩
  by_cases c2 : m = 28
  · subst c2
    go_enter Try.func30, Try.ntmps30
    go_wp2
    go_ret2
    exact ⟨rfl, rfl⟩
  · have c3 : m < 28 := by omega
    have q2 : ((m : Int) == 28) = false := by rw [beq_eq_false_iff_ne]; omega
    have HL := Lib.hid (ln_loop m (by omega) c3)
    obtain ⟨b, hb⟩ : ∃ b, b = m / 4 - 1 := ⟨_, rfl⟩
    obtain ⟨c, hc⟩ : ∃ c, c = 4 + m % 4 := ⟨_, rfl⟩
    rw [← hb, ← hc] at HL
    have e1 : (m : Int) / 4 - 1 = (b : Int) := by omega
    have e2 : 4 + (m : Int) % 4 = (c : Int) := by omega
    have hb6 : b ≤ 6 := by omega
    have hc8 : c ≤ 8 := by omega
    have q1 : decide ((m : Int) < 8) = false := by rw [decide_eq_false_iff_not]; omega
    clear hb hc
    go_enter Try.func30, Try.ntmps30
    go_wp2
    go_loop [6, 7] (fun t i => DbRel c b t i) (fun _ i => b - (intOf i).toNat)
    case atStart => exact ⟨0, Nat.zero_le _, rfl, by rw [B.P2_zero, Nat.mul_one]⟩
    case round =>
      obtain ⟨k, hk, rfl, rfl⟩ := hrel
      have hp : B.P2 k ≤ 64 := B.P2_le (b := 6) (by omega)
      have hcp : c * B.P2 k ≤ 512 := Nat.mul_le_mul hc8 hp
      have HS : Hid (c * B.P2 (k + 1) = c * B.P2 k * 2) := Lib.hid (by rw [B.P2_succ, Nat.mul_comm 2, Nat.mul_assoc])
      by_cases hlt : k < b
      · generalize c * B.P2 k = M at *
        clear hp
        go_wp2
        go_round
        case rel => exact ⟨k + 1, by omega, by go_num, by rw [HS.out]; go_num⟩
        case measure => simp [intOf]; omega
      · obtain rfl : k = b := by omega
        have HE : Hid (((I.ln m).1 : Int) = ((c * B.P2 k : Nat) : Int) + 3 ∧ ((I.ln m).2 : Int) = (k : Int)) := Lib.hid (by rw [HL.out]; exact ⟨by push_cast; rfl, rfl⟩)
        generalize c * B.P2 k = M at *
        clear hp
        go_wp2
        go_ret2
        exact ⟨by rw [HE.out.1, HE.out.2]; rfl, rfl⟩
set_option maxHeartbeats 1000000 in
theorem rdst_any (m : Nat) (w : World) (hm : m < 30) : Calls Try.prog 32 #[.int .i64 (m : Int)] w fun e w' => e = .returned (.tuple #[.int .i64 ((I.ds m).1 : Int), .int .i64 ((I.ds m).2 : Int)]) ∧ w = w' := by
  by_cases c1 : m < 4
  · rw [ds_small m c1]
    go_enter Try.func32, Try.ntmps32
    go_wp2
    go_ret2
    exact ⟨by simp, rfl⟩
  · have HL := Lib.hid (ds_loop m (by omega) hm)
    obtain ⟨b, hb⟩ : ∃ b, b = m / 2 - 1 := ⟨_, rfl⟩
    obtain ⟨c, hc⟩ : ∃ c, c = 2 + m % 2 := ⟨_, rfl⟩
    rw [← hb, ← hc] at HL
    have e1 : (m : Int) / 2 - 1 = (b : Int) := by omega
    have e2 : 2 + (m : Int) % 2 = (c : Int) := by omega
    have hb6 : b ≤ 13 := by omega
    have hc8 : c ≤ 3 := by omega
    have q1 : decide ((m : Int) < 4) = false := by rw [decide_eq_false_iff_not]; omega
    clear hb hc
    go_enter Try.func32, Try.ntmps32
    go_wp2
    go_loop [5, 6] (fun t i => DbRel c b t i) (fun _ i => b - (intOf i).toNat)
    case atStart => exact ⟨0, Nat.zero_le _, rfl, by rw [B.P2_zero, Nat.mul_one]⟩
    case round =>
      obtain ⟨k, hk, rfl, rfl⟩ := hrel
      have hp : B.P2 k ≤ 8192 := B.P2_le (b := 13) (by omega)
      have hcp : c * B.P2 k ≤ 24576 := Nat.mul_le_mul hc8 hp
      have HS : Hid (c * B.P2 (k + 1) = c * B.P2 k * 2) := Lib.hid (by rw [B.P2_succ, Nat.mul_comm 2, Nat.mul_assoc])
      by_cases hlt : k < b
      · generalize c * B.P2 k = M at *
        clear hp
        go_wp2
        go_round
        case rel => exact ⟨k + 1, by omega, by go_num, by rw [HS.out]; go_num⟩
        case measure => simp [intOf]; omega
      · obtain rfl : k = b := by omega
        have HE : Hid (((I.ds m).1 : Int) = ((c * B.P2 k : Nat) : Int) + 1 ∧ ((I.ds m).2 : Int) = (k : Int)) := Lib.hid (by rw [HL.out]; exact ⟨by push_cast; rfl, rfl⟩)
        generalize c * B.P2 k = M at *
        clear hp
        go_wp2
        go_ret2
        exact ⟨by rw [HE.out.1, HE.out.2]; rfl, rfl⟩
/-- a list of numbers of the call's own -/
def OwnL (w : World) (B : Nat) (sl : Value) (xs : List Int) : Prop := w.ownsRow B 3 1 sl xs.length (xs.map fun x => Value.int .i64 x)
theorem int_info : (Try.prog.info? 3).map (fun i => (i.zero, i.size, i.bytes)) = some (some (.int .i64 0), 1, 8) := by kernel_rfl
theorem OwnL.more {w : World} {B h n : Nat} {sl : Value} {xs : List Int} {v : Int} (ho : OwnL w B sl xs) (hB : B ≤ w.heap.size) (hb : Blk w h (List.replicate n (Value.int .i64 v)).toArray 3) (hx : xs.length + n ≤ 1000) (ty : TypeId) :
    ∃ sl' w', (Builtin.append_ #[42, 42] ty #[sl, .slice (some ⟨h, 0, none⟩) n n]).run Try.prog w = .ok sl' w' ∧ Hid (OwnL w' B sl' (xs ++ List.replicate n v) ∧ Below B w w') := by
  obtain ⟨i0, hi, hz0, hz1, hz2⟩ := info_parts int_info
  obtain ⟨sl', w', hr, h2, h3, _, h5⟩ := run_append_own_at (P := Try.prog) w B 42 ty 3 i0 (.int .i64 0) 1 8 Try.underlying42 hi hz0 hz1 hz2 rfl (by decide) sl xs.length _ ho ⟨h, 0, none⟩ n n (List.replicate n (.int .i64 v)) (by simp)
    (World.news_of_block (cs := (List.replicate n (Value.int .i64 v)).toArray) hb) (fun x hx => by rw [List.eq_of_mem_replicate hx]; rfl) (by unfold maxLen; omega) (by omega) hB
  refine ⟨sl', w', hr, Lib.hid ⟨?_, h3.os, h3.tape, h3.output, h3.size, fun k hk => h3.block k (by omega) (fun e => ?_)⟩⟩
  · unfold OwnL
    rw [List.length_append, List.length_replicate, List.map_append, List.map_replicate]
    exact h2
  · have := (World.ownsRow.lt ho k e.symm).1
    omega
theorem OwnL.ints {w : World} {B : Nat} {sl : Value} {xs : List Int} (h : OwnL w B sl xs) (hx : ∀ x ∈ xs, 0 ≤ x ∧ x ≤ 1000) (h0 : 0 < xs.length) : ∃ g c, sl = .slice (some ⟨g, 0, none⟩) xs.length c ∧ Ints w xs (some ⟨g, 0, none⟩) g 0 := by
  obtain ⟨g, c, rfl, _, _⟩ := World.ownsRow.form h h0
  refine ⟨g, c, rfl, Or.inr rfl, fun i hi => ?_, fun i hi => ?_⟩
  · have := hx _ (List.getElem_mem hi); omega
  · have := World.ownsRow.cells h (g := g) rfl i (.int .i64 xs[i]) (by simp [hi])
    rwa [Addr.add_mid] at this
theorem fixA_len : I.fixA.length = 288 := by decide +kernel
theorem fixA_mem : ∀ x ∈ I.fixA, 0 ≤ x ∧ x ≤ 1000 := by
  intro x hx
  unfold I.fixA at hx
  simp only [List.mem_append, List.mem_replicate] at hx
  omega
theorem fixD_len : I.fixD.length = 32 := by decide +kernel
section
variable {ops : Array Oper} {rest : List Oper} {o : Oper} {a : Act} {w : World} {Q : Exit → Act → World → Prop}
theorem wl_append {W w' : World} {v x v' : Value} {t u : TypeId} (hgd : o.guard = none) (sx xx : Operand) (ho : o.op = .call { callee := .builtin .append, args := #[sx, xx], argTypes := #[t, u] })
    (hs : a.eval sx = v) (hx : a.eval xx = x) (hrun : (Builtin.append_ #[t, u] o.type #[v, x]).run Try.prog W = .ok v' w') (h : wpList Try.prog ops Q rest (a.put o.dst v') w') : wpList Try.prog ops Q (o :: rest) a W := by
  refine wpList_plain hgd fun K hK => ?_
  unfold Oper.wp execOp
  simp only [ho, resolve, invoke, builtin, Sem.run_bind, Sem.run_pure, Result.andThen_ok, List.map_toArray, List.map_cons, List.map_nil, hs, hx, hrun]
  exact hK _ _ h
end
theorem OwnL.keep {w w' : World} {B : Nat} {sl : Value} {xs : List Int} (h : OwnL w B sl xs) (k : Below w.heap.size w w') : OwnL w' B sl xs :=
  World.ownsRow.kept h (row := none) ⟨k.os, k.tape, k.output, k.size, fun i hi _ => k.block i hi⟩ (by cases hv : sl.ownBlock <;> simp)
theorem OwnL.nil (w : World) (B : Nat) : OwnL w B (.slice none 0 0) [] := World.ownsRow_nil w B 3 1
theorem fixA_at (k : Nat) (h : k < 288) : I.fixA[k]'(by rw [fixA_len]; exact h) = if 143 < k ∧ k < 256 then 9 else if 255 < k ∧ k < 280 then 7 else 8 := by
  have : ∀ k : Fin 288, I.fixA[(k : Nat)]'(by rw [fixA_len]; exact k.2) = if 143 < (k : Nat) ∧ (k : Nat) < 256 then 9 else if 255 < (k : Nat) ∧ (k : Nat) < 280 then 7 else 8 := by decide +kernel
  exact this ⟨k, h⟩
def P1Rel (w : World) (v i : Value) (wr : World) : Prop := ∃ k : Nat, k ≤ 288 ∧ i = .int .i64 (k : Int) ∧ OwnL wr w.heap.size v (I.fixA.take k) ∧ Below w.heap.size w wr
def P2Rel (w : World) (v i : Value) (wr : World) : Prop := ∃ k : Nat, k ≤ 32 ∧ i = .int .i64 (k : Int) ∧ OwnL wr w.heap.size v (I.fixD.take k) ∧ Below w.heap.size w wr
def PlPost (w : World) (e : Ending) (w' : World) : Prop := ∃ sa sb, e = .returned (.tuple #[sa, sb]) ∧ OwnL w' w.heap.size sa I.fixA ∧ OwnL w' w.heap.size sb I.fixD ∧ Below w.heap.size w w'
theorem OwnL.mono {w : World} {B B' : Nat} {sl : Value} {xs : List Int} (h : OwnL w B sl xs) (hB : B' ≤ B) : OwnL w B' sl xs := by
  refine ⟨h.1, ?_⟩
  rcases h.2 with h1 | ⟨g, cap, cur, h1, h2, h3⟩
  · exact Or.inl h1
  · exact Or.inr ⟨g, cap, cur, h1, by omega, h3⟩
set_option maxHeartbeats 2000000 in
set_option maxRecDepth 100000 in
theorem plain_any (w : World) : Calls Try.prog 27 #[] w (PlPost w) := by
  go_enter Try.func27, Try.ntmps27
  go_wp2
  go_loopw [2, 4] (fun v i wr => P1Rel w v i wr) (fun _ i _ => 288 - (intOf i).toNat)
  case atStart => exact ⟨0, Nat.zero_le _, rfl, OwnL.nil _ _, bq_refl w⟩
  case round =>
    obtain ⟨k, hk, rfl, ho, hb⟩ := hrel
    have HB := Lib.hid hb
    by_cases hlt : k < 288
    · have hkl : k < I.fixA.length := by rw [fixA_len]; exact hlt
      have HT : Hid (I.fixA.take (k + 1) = I.fixA.take k ++ List.replicate 1 I.fixA[k]) := Lib.hid (by rw [List.take_succ_eq_append_getElem hkl]; rfl)
      have hat := fixA_at k hlt
      have hlen : (I.fixA.take k).length = k := by rw [List.length_take]; omega
      obtain ⟨v, hv⟩ : ∃ v, v = I.fixA[k] := ⟨_, rfl⟩
      rw [← hv] at hat HT
      obtain ⟨sl3, w3, hrun, HF⟩ := OwnL.more (v := v) (ho.keep (bq_alloc (bq_refl wr) (.cells #[.int .i64 v] 3))) (by have := hb.size; simp; omega) (blk_new wr _ 3 : Blk _ _ (List.replicate 1 (Value.int .i64 v)).toArray 3) (by rw [hlen]; omega) 42
      have HRUN := Lib.hid hrun
      have HW : Hid (Below w.heap.size w w3) := Lib.hid ((bq_alloc hb _).trans HF.out.2)
      clear hrun ho hb hlen hv hkl
      by_cases c1 : 143 < k ∧ k < 256
      · rw [if_pos c1] at hat
        subst hat
        have c2 : 143 < k := c1.1
        have c3 : k < 256 := c1.2
        clear c1
        go_wp2_with (at_builtin; refine wl_append rfl (.tmp 23) (.tmp 25) rfl rfl rfl HRUN.out ?_)
        go_roundw
        case rel => exact ⟨k + 1, by omega, by go_num, by rw [HT.out]; exact HF.out.1, HW.out⟩
        case measure => simp [intOf]; omega
      · rw [if_neg c1] at hat
        by_cases c4 : 255 < k ∧ k < 280
        · rw [if_pos c4] at hat
          subst hat
          have c5 : 255 < k := c4.1
          have c6 : k < 280 := c4.2
          clear c1 c4
          go_wp2_with (at_builtin; refine wl_append rfl (.tmp 23) (.tmp 25) rfl rfl rfl HRUN.out ?_)
          go_roundw
          case rel => exact ⟨k + 1, by omega, by go_num, by rw [HT.out]; exact HF.out.1, HW.out⟩
          case measure => simp [intOf]; omega
        · rw [if_neg c4] at hat
          subst hat
          by_cases c7 : 143 < k
          · have c8 : 279 < k := by omega
            clear c1 c4
            go_wp2_with (at_builtin; refine wl_append rfl (.tmp 23) (.tmp 25) rfl rfl rfl HRUN.out ?_)
            go_roundw
            case rel => exact ⟨k + 1, by omega, by go_num, by rw [HT.out]; exact HF.out.1, HW.out⟩
            case measure => simp [intOf]; omega
          · clear c1 c4
            go_wp2_with (at_builtin; refine wl_append rfl (.tmp 23) (.tmp 25) rfl rfl rfl HRUN.out ?_)
            go_roundw
            case rel => exact ⟨k + 1, by omega, by go_num, by rw [HT.out]; exact HF.out.1, HW.out⟩
            case measure => simp [intOf]; omega
    · rw [List.take_of_length_le (by rw [fixA_len]; omega)] at ho
      have HO := Lib.hid ho
      clear ho hb
      obtain ⟨W1, hW1⟩ : ∃ W1, W1 = wr := ⟨_, rfl⟩
      subst hW1
      have HST : Hid (P2Rel W1 (.slice none 0 0) (.int .i64 0) W1) := Lib.hid ⟨0, Nat.zero_le _, rfl, OwnL.nil _ _, bq_refl W1⟩
      go_wp2
      go_loopw [3, 6] (fun v i wq => P2Rel W1 v i wq) (fun _ i _ => 32 - (intOf i).toNat)
      case atStart => exact HST.out
      case round =>
        obtain ⟨k, hk, rfl, ho, hb⟩ := hrel
        have HB2 := Lib.hid hb
        by_cases hlt : k < 32
        · have hkl : k < I.fixD.length := by rw [fixD_len]; exact hlt
          have HT : Hid (I.fixD.take (k + 1) = I.fixD.take k ++ List.replicate 1 5) := Lib.hid (by
            rw [List.take_succ_eq_append_getElem hkl]
            congr 1
            have e : I.fixD[k] = 5 := List.getElem_replicate _
            rw [e]
            rfl)
          have hlen : (I.fixD.take k).length = k := by rw [List.length_take]; omega
          obtain ⟨sl3, w3, hrun, HF⟩ := OwnL.more (v := 5) (ho.keep (bq_alloc (bq_refl wr) (.cells #[.int .i64 5] 3))) (by have := hb.size; simp; omega) (blk_new wr _ 3 : Blk _ _ (List.replicate 1 (Value.int .i64 5)).toArray 3) (by rw [hlen]; omega) 42
          have HRUN := Lib.hid hrun
          have HW : Hid (Below W1.heap.size W1 w3) := Lib.hid ((bq_alloc hb _).trans HF.out.2)
          clear hrun ho hb hlen hkl
          go_wp2_with (at_builtin; refine wl_append rfl (.tmp 31) (.tmp 32) rfl rfl rfl HRUN.out ?_)
          go_roundw
          case rel => exact ⟨k + 1, by omega, by go_num, by rw [HT.out]; exact HF.out.1, HW.out⟩
          case measure => simp [intOf]; omega
        · rw [List.take_of_length_le (by rw [fixD_len]; omega)] at ho
          have HO2 := Lib.hid ho
          clear ho hb
          go_wp2
          go_ret2
          exact ⟨_, _, rfl, HO.out.keep HB2.out, HO2.out.mono HB.out.size, bq_trans HB.out HB2.out⟩
end Go.Proofs.Ytddiccdfeckgaaa
