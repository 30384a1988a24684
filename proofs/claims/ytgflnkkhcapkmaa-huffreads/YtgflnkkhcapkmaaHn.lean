import Derived.Test.YtgflnkkhcapkmaaHm
/- Layer 4: where the codes of each length begin; their first ones. -/
namespace Go.Proofs.Ytgflnkkhcapkmaa
open Go.RowKit
set_option linter.unusedVariables false

/-- so far: f below k, 0 from k on -/
def upto (f : Nat → Nat) (k n : Nat) : Nat := if n < k then f n else 0
theorem row_step (f : Nat → Nat) (k : Nat) : (row16 (upto f k)).setIfInBounds k (.int .i64 (f k : Int)) = row16 (upto f (k + 1)) := by
  rw [row16_set]
  apply row16_congr
  intro n hn
  unfold upto
  by_cases h : n = k
  · subst h; rw [if_pos rfl, if_pos (by omega)]
  · rw [if_neg h]
    by_cases h2 : n < k
    · rw [if_pos h2, if_pos (by omega)]
    · rw [if_neg h2, if_neg (by omega)]
theorem row_start (f : Nat → Nat) : row16 (upto f 0) = row16 (fun _ => 0) := row16_congr _ _ (fun n _ => by unfold upto; rw [if_neg (by omega)])
theorem row_end (f : Nat → Nat) : row16 (upto f 16) = row16 f := row16_congr _ _ (fun n h => by unfold upto; rw [if_pos h])
def StRel (zs : List Int) (w : World) (b2 b4 : Nat) (tot i : Value) (wr : World) : Prop :=
  ∃ k x : Nat, k ≤ 16 ∧ i = .int .i64 k ∧ tot = .int .i64 (x : Int) ∧ x = Hf.st zs k ∧ Blk wr b2 (row16 fun _ => 0) 25 ∧ Blk wr b4 (row16 (upto (Hf.st zs) k)) 25 ∧ Below w.heap.size w wr
set_option maxHeartbeats 1000000 in
theorem starts_any (zs : List Int) (w : World) (hl : zs.length ≤ 320) :
    Calls Try.prog 20 #[.agg (row16 (Hf.cn zs))] w fun e w' => e = .returned (.tuple #[.agg (row16 (Hf.st zs)), .int .i64 (Hf.st zs 16 : Int)]) ∧ Below w.heap.size w w' := by
  have hz := row16_size (Hf.cn zs)
  have HZ := Lib.hid hz
  clear hz
  go_enter Try.func20, Try.ntmps20
  go_wp2_with (first
    | (refine wl_box 25 _ _ rfl rfl rfl ?_; intro _ _ _ _ _)
    | (refine wl_alloc 25 _ zero25 rfl rfl ?_; intro _ _ _ _ _)
    | (refine wl_load 25 16 _ Try.underlying25 rfl size25 _ rfl rfl _ rfl _ _ (by first | assumption | exact Blk.keep (by assumption) (by assumption) | exact Blk.keep (Blk.keep (by assumption) (by assumption)) (by assumption)) HZ.out ?_))
  rename_i W1 b1 B1 l1 k1 W2 b2 B2 l2 k2 W3 b4 B4 l3 k3 K hK
  have n1 : b2 < W2.heap.size := B2.lt
  have C2 := Blk.keep B2 k3
  have HE := Lib.hid (bq_trans (bq_trans k1 k2) k3)
  have s1 := k1.size
  have s2 := k2.size
  have g2 : w.heap.size ≤ b2 := by omega
  have g4 : w.heap.size ≤ b4 := by omega
  have n2 : b2 ≠ b4 := by omega
  clear B1 l1 k1 B2 l2 k2 l3 k3 s1 s2 n1
  go_loopw [5, 9] (fun t i wr => StRel zs w b2 b4 t i wr) (fun _ i _ => 16 - (intOf i).toNat)
  case atStart => exact ⟨0, 0, by omega, rfl, rfl, rfl, C2, by rw [row_start]; exact B4, HE.out⟩
  case round =>
    obtain ⟨k, x, hk, rfl, rfl, hx, hb2, hb4, hbel⟩ := hrel
    have hx2 := Hf.st_len zs k
    rw [← hx] at hx2
    have HX := Lib.hid hx
    have HB := Lib.hid hbel
    clear hx hbel C2 B4 HE
    by_cases hlt : k < 16
    · have hi := row16_at (Hf.cn zs) k hlt
      have hc := (hb4.cell k).trans (row16_at (upto (Hf.st zs) k) k hlt)
      have hf := hb4.frozen k
      have hcl := Hf.cn_len zs k
      have hs := row_step (Hf.st zs) k
      rw [← HX.out] at hs
      have HS := Lib.hid hs
      have HN : Hid (x + Hf.cn zs k = Hf.st zs (k + 1)) := by rw [HX.out]; exact Lib.hid rfl
      generalize upto (Hf.st zs) k k = z at *
      have hix := row16_index (Hf.cn zs) k wr hlt
      clear hs hi
      generalize Hf.cn zs k = y at *
      go_wp2
      go_roundw
      case rel => exact ⟨k + 1, x + y, by omega, by go_num, by go_num, HN.out, hb2.other _ (by show b2 ≠ b4; exact n2), by rw [← HS.out]; exact hb4.set k _, bq_set HB.out _ g4 _⟩
      case measure => simp [intOf]; omega
    · obtain rfl : k = 16 := by omega
      rw [row_end] at hb4
      go_wp2_with (first
        | (refine wl_load 25 16 _ Try.underlying25 rfl size25 _ rfl rfl _ rfl _ _ hb4 (row16_size _) ?_)
        | (refine wl_store 25 16 size25 _ _ rfl rfl _ rfl _ rfl _ _ hb2 (row16_size _) (row16_size _) (row16_one _) ?_; intro W5 hB5 hT5))
      refine post_cell_tmp (v := .int .i64 (x : Int)) Try.underlying25 rfl size25 Try.results20 hB5 (row16_size _) rfl rfl rfl ⟨?_, hT5.below HB.out g2⟩
      rw [HX.out]

def FsRel (zs : List Int) (w : World) (b2 b3 : Nat) (c i : Value) (wr : World) : Prop :=
  ∃ k x : Nat, k ≤ 16 ∧ i = .int .i64 k ∧ c = .int .i64 (x : Int) ∧ (k = 0 → x = 0) ∧ (0 < k → x = Hf.fs zs (k - 1) + Hf.cn zs (k - 1)) ∧ Blk wr b2 (row16 fun _ => 0) 25 ∧ Blk wr b3 (row16 (upto (Hf.fs zs) k)) 25 ∧ Below w.heap.size w wr
theorem fs_bd (zs : List Int) (hl : zs.length ≤ 320) (k : Nat) (h : k ≤ 15) : Hf.fs zs k ≤ 10485760 := by
  have h1 := Hf.fs_len zs k h
  have h2 : zs.length * 32768 ≤ 320 * 32768 := Nat.mul_le_mul_right _ hl
  exact Nat.le_trans h1 h2
theorem fs_next (zs : List Int) (k x : Nat) (h0 : k = 0 → x = 0) (h1 : 0 < k → x = Hf.fs zs (k - 1) + Hf.cn zs (k - 1)) : 2 * x = Hf.fs zs k := by
  cases k with
  | zero => rw [h0 rfl]; rfl
  | succ k => rw [h1 (by omega), Hf.fs_succ]; rfl
set_option maxHeartbeats 1000000 in
theorem firsts_any (zs : List Int) (w : World) (hl : zs.length ≤ 320) :
    Calls Try.prog 21 #[.agg (row16 (Hf.cn zs))] w fun e w' => e = .returned (.agg (row16 (Hf.fs zs))) ∧ Below w.heap.size w w' := by
  go_enter Try.func21, Try.ntmps21
  go_wp2_with (first
    | (refine wl_box 25 _ _ rfl rfl rfl ?_; intro _ _ _ _ _)
    | (refine wl_alloc 25 _ zero25 rfl rfl ?_; intro _ _ _ _ _)
    | (refine wl_load 25 16 _ Try.underlying25 rfl size25 _ rfl rfl _ rfl _ _ (by first | assumption | exact Blk.keep (by assumption) (by assumption) | exact Blk.keep (Blk.keep (by assumption) (by assumption)) (by assumption)) (row16_size _) ?_))
  rename_i W1 b1 B1 l1 k1 W2 b2 B2 l2 k2 W3 b4 B4 l3 k3 K hK
  have n1 : b2 < W2.heap.size := B2.lt
  have C2 := Blk.keep B2 k3
  have HE := Lib.hid (bq_trans (bq_trans k1 k2) k3)
  have s1 := k1.size
  have s2 := k2.size
  have g2 : w.heap.size ≤ b2 := by omega
  have g4 : w.heap.size ≤ b4 := by omega
  have n2 : b2 ≠ b4 := by omega
  clear B1 l1 k1 B2 l2 k2 l3 k3 s1 s2 n1
  go_loopw [4, 8] (fun t i wr => FsRel zs w b2 b4 t i wr) (fun _ i _ => 16 - (intOf i).toNat)
  case atStart => exact ⟨0, 0, by omega, rfl, rfl, fun _ => rfl, fun h => by omega, C2, by rw [row_start]; exact B4, HE.out⟩
  case round =>
    obtain ⟨k, x, hk, rfl, rfl, hx0, hx1, hb2, hb4, hbel⟩ := hrel
    have HB := Lib.hid hbel
    clear hbel C2 B4 HE
    by_cases hlt : k < 16
    · have hc := (hb4.cell k).trans (row16_at (upto (Hf.fs zs) k) k hlt)
      have hf := hb4.frozen k
      have hcl := Hf.cn_len zs k
      have hfb := fs_bd zs hl k (by omega)
      have hxe := fs_next zs k x hx0 hx1
      have hs := row_step (Hf.fs zs) k
      have HR := Lib.hid (hb4.set k (.int .i64 (Hf.fs zs k : Int)))
      rw [hs] at HR
      have HX : Hid (Hf.fs zs k + Hf.cn zs k = Hf.fs zs (k + 1 - 1) + Hf.cn zs (k + 1 - 1)) := Lib.hid rfl
      have hix := row16_index (Hf.cn zs) k wr hlt
      rw [← hxe] at hfb HR HX
      generalize Hf.cn zs k = y at *
      generalize upto (Hf.fs zs) k k = z at *
      have hx2 : x ≤ 10485760 := by omega
      have e2 : (x : Int) * 2 = ((2 * x : Nat) : Int) := by omega
      have HE2 := Lib.hid e2
      clear hs hxe hx0 hx1 e2 hfb
      go_wp2
      rw [HE2.out]
      go_roundw
      case rel => exact ⟨k + 1, 2 * x + y, by omega, by go_num, by go_num, fun h => by omega, fun _ => HX.out, hb2.other _ (by show b2 ≠ b4; exact n2), HR.out, bq_set HB.out _ g4 _⟩
      case measure => simp [intOf]; omega
    · obtain rfl : k = 16 := by omega
      rw [row_end] at hb4
      clear hx0 hx1
      go_wp2_with (first
        | (refine wl_load 25 16 _ Try.underlying25 rfl size25 _ rfl rfl _ rfl _ _ hb4 (row16_size _) ?_)
        | (refine wl_store 25 16 size25 _ _ rfl rfl _ rfl _ rfl _ _ hb2 (row16_size _) (row16_size _) (row16_one _) ?_; intro W5 hB5 hT5))
      exact post_cell Try.underlying25 rfl size25 Try.results21 hB5 (row16_size _) rfl rfl ⟨rfl, hT5.below HB.out g2⟩
end Go.Proofs.Ytgflnkkhcapkmaa
