import Derived.Test.YtgflnkkhcapkmaaHp
import Derived.Test.YtgflnkkhcapkmaaH2
import Derived.Deep.Cut
import Derived.Deep.DeepCutAuto
import Derived.Deep.CutBlock
/- Layer 4: the codes of lengths. -/
namespace Go.Proofs.Ytgflnkkhcapkmaa
open Go.RowKit
set_option linter.unusedVariables false

/-- n numbers -/
def intA (f : Nat → Nat) (n : Nat) : Array Value := ((List.range n).map fun i => Value.int .i64 (f i : Int)).toArray
theorem intA_size (f : Nat → Nat) (n : Nat) : (intA f n).size = n := by simp [intA]
theorem intA_at (f : Nat → Nat) (n k : Nat) (h : k < n) : (intA f n)[k]? = some (.int .i64 (f k : Int)) := by simp [intA, h]
theorem intA_congr (f g : Nat → Nat) (n : Nat) (h : ∀ i, i < n → f i = g i) : intA f n = intA g n := by
  unfold intA
  apply Array.ext
  · simp
  · intro i h1 h2
    simp only [List.size_toArray, List.length_map, List.length_range] at h1
    simp [h i h1]
theorem intA_set (f : Nat → Nat) (n k v : Nat) : (intA f n).setIfInBounds k (.int .i64 (v : Int)) = intA (fun i => if i = k then v else f i) n := by
  apply Array.ext
  · simp [intA]
  · intro i h1 h2
    simp only [Array.size_setIfInBounds] at h1
    rw [Array.getElem_setIfInBounds h1]
    simp only [intA, List.getElem_toArray, List.getElem_map, List.getElem_range]
    by_cases e : k = i
    · subst e; simp
    · rw [if_neg e, if_neg (by omega)]
theorem intA_zero (n : Nat) : Array.replicate n (Value.int .i64 0) = intA (fun _ => 0) n := by
  apply Array.ext
  · simp [intA]
  · intro i h1 h2
    simp [intA]
theorem info3 : (Try.prog.info? 3).map (fun i => (i.zero, i.size, i.bytes)) = some (some (.int .i64 0), 1, 8) := by kernel_rfl
section
variable {ops : Array Oper} {rest : List Oper} {o : Oper} {a : Act} {w : World} {Q : Exit → Act → World → Prop}
theorem wl_ints (l c : Operand) (ho : o.op = .makeSlice 22 l c) (hgd : o.guard = none) (n : Nat) (hl : a.eval l = .int .i64 (n : Int)) (hcc : a.eval c = .int .i64 (n : Int)) (hn : n ≤ 1000000)
    (h : ∀ W b, Blk W b (intA (fun _ => 0) n) 3 → w.heap.size ≤ b → Below w.heap.size w W → wpList Try.prog ops Q rest (a.put o.dst (.slice (some ⟨b, 0, none⟩) n n)) W) : wpList Try.prog ops Q (o :: rest) a w := by
  have hi := info3
  cases hq : Try.prog.info? 3 with
  | none => rw [hq] at hi; cases hi
  | some i =>
    rw [hq] at hi
    simp only [Option.map_some, Option.some.injEq, Prod.mk.injEq] at hi
    refine wl_make 22 3 i (.int .i64 0) Try.underlying22 hq hi.1 hi.2.1 (by omega) rfl l c ho hgd n hl hcc hn ?_
    rw [intA_zero]
    exact h
end
def CdRel (zs : List Int) (w : World) (b6 b7 : Nat) (i : Value) (wr : World) : Prop :=
  ∃ k : Nat, k ≤ zs.length ∧ i = .int .i64 k ∧ Blk wr b6 (row16 fun n => Hf.fs zs n + Hf.cn (zs.take k) n) 25 ∧ Blk wr b7 (intA (upto (Hf.cd zs) k) zs.length) 3 ∧ Below w.heap.size w wr
theorem cd_step (zs : List Int) (k : Nat) : (intA (upto (Hf.cd zs) k) zs.length).setIfInBounds k (.int .i64 (Hf.cd zs k : Int)) = intA (upto (Hf.cd zs) (k + 1)) zs.length := by
  rw [intA_set]
  apply intA_congr
  intro n hn
  unfold upto
  by_cases h : n = k
  · subst h; rw [if_pos rfl, if_pos (by omega)]
  · rw [if_neg h]
    by_cases h2 : n < k
    · rw [if_pos h2, if_pos (by omega)]
    · rw [if_neg h2, if_neg (by omega)]
theorem cd_skip (zs : List Int) (k : Nat) (h : k < zs.length) (h0 : zs[k] = 0) : intA (upto (Hf.cd zs) k) zs.length = intA (upto (Hf.cd zs) (k + 1)) zs.length := by
  apply intA_congr
  intro n hn
  unfold upto
  by_cases e : n = k
  · subst e; rw [if_neg (by omega), if_pos (by omega), Hf.cd_zero zs n h h0]
  · by_cases h2 : n < k
    · rw [if_pos h2, if_pos (by omega)]
    · rw [if_neg h2, if_neg (by omega)]
theorem up_start (f : Nat → Nat) (n : Nat) : intA (upto f 0) n = intA (fun _ => 0) n := intA_congr _ _ _ (fun i _ => by unfold upto; rw [if_neg (by omega)])
theorem up_end (f : Nat → Nat) (n : Nat) : intA (upto f n) n = intA f n := intA_congr _ _ _ (fun i h => by unfold upto; rw [if_pos h])
theorem nxt_inc (g : Nat → Nat) (zs : List Int) (k m : Nat) (h : k < zs.length) (hm : zs[k] = (m : Int)) (h0 : 0 < m) :
    (row16 fun n => g n + Hf.cn (zs.take k) n).setIfInBounds m (.int .i64 (((g m + Hf.cn (zs.take k) m : Nat) : Int) + 1)) = row16 fun n => g n + Hf.cn (zs.take (k + 1)) n := by
  have e : (((g m + Hf.cn (zs.take k) m : Nat) : Int) + 1) = ((g m + Hf.cn (zs.take k) m + 1 : Nat) : Int) := by omega
  rw [e, row16_set]
  apply row16_congr
  intro n hn
  show (if n = m then _ else _) = _
  rw [Hf.cn_take zs k n h]
  by_cases e2 : n = m
  · subst e2; rw [if_pos rfl, if_pos ⟨h0, hm⟩]; rfl
  · rw [if_neg e2, if_neg (by omega)]; rfl
theorem nxt_same (g : Nat → Nat) (zs : List Int) (k : Nat) (h : k < zs.length) (hm : zs[k] = 0) : (row16 fun n => g n + Hf.cn (zs.take k) n) = row16 fun n => g n + Hf.cn (zs.take (k + 1)) n := by
  apply row16_congr
  intro n hn
  show g n + _ = g n + _
  rw [Hf.cn_take zs k n h, if_neg (by omega)]; rfl
theorem nxt_start (g : Nat → Nat) (zs : List Int) : (row16 fun n => g n + Hf.cn (zs.take 0) n) = row16 g := by
  apply row16_congr
  intro n hn
  rw [List.take_zero, Hf.cn_nil]; rfl
theorem cd_bd (zs : List Int) (hl : zs.length ≤ 320) (k : Nat) : Hf.cd zs k ≤ 20000000 ∨ 15 < (zs.getD k 0).toNat := by
  by_cases h : (zs.getD k 0).toNat ≤ 15
  · left
    have h1 := fs_bd zs hl _ h
    have h2 := Hf.cn_len (zs.take k) (zs.getD k 0).toNat
    have h3 : (zs.take k).length ≤ 320 := by rw [List.length_take]; omega
    unfold Hf.cd
    split <;> omega
  · right; omega
def CodesPost (zs : List Int) (w : World) (e : Ending) (w' : World) : Prop :=
  ∃ b, w.heap.size ≤ b ∧ Blk w' b (intA (Hf.cd zs) zs.length) 3 ∧ e = .returned (.tuple #[.slice (some ⟨b, 0, none⟩) zs.length zs.length, .int .i64 0]) ∧ Below w.heap.size w w'
theorem codes_bad (zs : List Int) (a : Option Addr) (b o c n : Nat) (w : World) (hl : zs.length ≤ 9223372036854775807) (ha : Hid (Ints w zs a b o)) (he : errN zs = n) (h0 : n = 1 ∨ n = 4) :
    Calls Try.prog 10 #[.slice a zs.length c] w fun e w' => e = .returned (.tuple #[.slice none 0 0, .int .i64 (n : Int)]) ∧ Below w.heap.size w w' := by
  have HC := counted_any zs a b o c w hl ha
  rw [cntV_bad he (by omega)] at HC
  have HC2 := Lib.hid HC
  have q : ((n : Int) != 0) = true := by rw [bne_iff_ne]; omega
  clear HC he ha
  go_enter Try.func10, Try.ntmps10
  go_wp2_with (first
    | (go_at_call 19; refine HC2.out.mono ?_; rintro e w5 ⟨rfl, hb5⟩)
    | (refine wl_alloc 25 _ zero25 rfl rfl ?_; intro W1 b1 B1 l1 k1)
    | (refine wl_store 25 16 size25 _ _ rfl rfl _ rfl (row16 fun _ => 0) rfl _ _ B1 (row16_size _) (row16_size _) (row16_one _) ?_; intro W5 hB5 hT5))
  go_ret2
  exact ⟨rfl, hT5.below (bq_trans hb5 k1) (by have := hb5.size; omega)⟩
set_option maxHeartbeats 2000000 in
theorem codes_ok (zs : List Int) (a : Option Addr) (b o c : Nat) (w : World) (ha : Hid (Ints w zs a b o)) (he : errN zs = 0) :
    Calls Try.prog 10 #[.slice a zs.length c] w fun e w' => CodesPost zs w e w' := by
  obtain ⟨hl, hin, htab⟩ := errN_ok he
  have HC := counted_any zs a b o c w (by omega) ha
  rw [cntV_ok he] at HC
  have HC2 := Lib.hid HC
  have HF := Lib.hid (fun w => firsts_any zs w hl)
  have HIN := Lib.hid hin
  clear HC he hin htab
  go_enter Try.func10, Try.ntmps10
  go_upto_region 4 with (first
    | (go_at_call 19; refine HC2.out.mono ?_; rintro e w5 ⟨rfl, hb5⟩)
    | (refine wl_alloc 25 _ zero25 rfl rfl ?_; intro W1 b1 B1 l1 k1)
    | (refine wl_store 25 16 size25 _ _ rfl rfl _ rfl _ rfl _ _ B1 (row16_size _) (row16_size _) (row16_one _) ?_; intro W5 hB5 hT5))
  have H1 := Lib.hid (hT5.below (bq_trans hb5 k1) (by have := hb5.size; omega))
  clear HC2 hT5 hb5 B1 l1 k1
  go_wp2_with (first
    | (refine wl_load 25 16 _ Try.underlying25 rfl size25 _ rfl rfl _ rfl _ _ hB5 (row16_size _) ?_)
    | (go_at_call 21; refine (HF.out _).mono ?_; rintro e w6 ⟨rfl, hb6⟩)
    | (refine wl_alloc 25 _ zero25 rfl rfl ?_; intro W6 b6 B6 l6 k6)
    | (refine wl_store 25 16 size25 _ _ rfl rfl _ rfl _ rfl _ _ B6 (row16_size _) (row16_size _) (row16_one _) ?_; intro W7 hB7 hT7)
    | (refine wl_ints _ _ rfl rfl zs.length rfl rfl (by omega) ?_; intro W8 b8 B8 l8 k8))
  have z1 := H1.out.size
  have z2 := hb6.size
  have z3 := k6.size
  have z4 := hT7.size
  have z5 : b6 < W6.heap.size := B6.lt
  have C7 := hB7.keep k8
  have HE := Lib.hid (bq_trans (hT7.below (bq_trans (bq_trans H1.out hb6) k6) (by omega)) k8)
  have g6 : w.heap.size ≤ b6 := by omega
  have g8 : w.heap.size ≤ b8 := by omega
  have n1 : b6 ≠ b8 := by omega
  have n2 : b8 ≠ b6 := by omega
  clear hB5 H1 hb6 B6 l6 k6 hB7 hT7 l8 k8 z1 z2 z3 z4 z5 HF
  go_loopw [25] (fun i wr => CdRel zs w b6 b8 i wr) (fun i _ => zs.length - (intOf i).toNat)
  case atStart => exact ⟨0, by omega, rfl, by rw [nxt_start]; exact C7, by rw [up_start]; exact B8, HE.out⟩
  case round =>
    obtain ⟨k, hk, rfl, hb6, hb8, hbel⟩ := hrel
    have HB := Lib.hid hbel
    clear hbel C7 B8 HE
    by_cases hlt : k < zs.length
    · obtain ⟨rfl, hz0, hz1, hcell⟩ := ha.out.at HB.out k hlt
      have hin := HIN.out k hlt
      obtain ⟨z, hz⟩ : ∃ z, z = zs[k] := ⟨_, rfl⟩
      rw [← hz] at hz0 hz1 hcell hin
      have HZ := Lib.hid hz
      clear hz
      by_cases c3 : 0 < z
      · obtain ⟨m, rfl⟩ : ∃ m : Nat, z = (m : Int) := ⟨z.toNat, by omega⟩
        have hm : m < 16 := by omega
        have h6 := (hb6.cell m).trans (row16_at _ m hm)
        have f6 := hb6.frozen m
        have h8 := (hb8.cell k).trans (intA_at _ _ k hlt)
        have f8 := hb8.frozen k
        have HS6 := Lib.hid ((hb6.other (a := ⟨b8, k, none⟩) (.int .i64 ((Hf.fs zs m + Hf.cn (zs.take k) m : Nat) : Int)) n1).set m (.int .i64 (((Hf.fs zs m + Hf.cn (zs.take k) m : Nat) : Int) + 1)))
        rw [nxt_inc (Hf.fs zs) zs k m hlt HZ.out.symm (by omega)] at HS6
        have ecd : Hf.cd zs k = Hf.fs zs m + Hf.cn (zs.take k) m := by
          rw [Hf.cd_pos zs k hlt (by rw [← HZ.out]; omega), ← HZ.out]; rfl
        have HS8 := Lib.hid ((hb8.set k (.int .i64 (Hf.cd zs k : Int))).other (a := ⟨b6, m, none⟩) (.int .i64 (((Hf.fs zs m + Hf.cn (zs.take k) m : Nat) : Int) + 1)) n2)
        rw [cd_step, ecd] at HS8
        have hbd : Hf.fs zs m + Hf.cn (zs.take k) m ≤ 20000000 := by
          have a1 := fs_bd zs hl m (by omega)
          have a2 := Hf.cn_len (zs.take k) m
          have a3 : (zs.take k).length ≤ 320 := by rw [List.length_take]; omega
          omega
        clear ecd hb6 hb8
        generalize Hf.fs zs m + Hf.cn (zs.take k) m = x at *
        generalize upto (Hf.cd zs) k k = y at *
        go_wp2
        go_roundw
        case rel => exact ⟨k + 1, by omega, by go_num, HS6.out, HS8.out, bq_set (bq_set HB.out _ g8 _) _ g6 _⟩
        case measure => simp [intOf]; omega
      · obtain rfl : z = 0 := by omega
        rw [nxt_same (Hf.fs zs) zs k hlt HZ.out.symm] at hb6
        rw [cd_skip zs k hlt HZ.out.symm] at hb8
        go_wp2
        go_roundw
        case rel => exact ⟨k + 1, by omega, by go_num, hb6, hb8, HB.out⟩
        case measure => simp [intOf]; omega
    · obtain rfl : k = zs.length := by omega
      rw [up_end] at hb8
      go_wp2
      go_ret2
      exact ⟨b8, g8, hb8, rfl, HB.out⟩
end Go.Proofs.Ytgflnkkhcapkmaa
