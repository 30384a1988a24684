import Derived.Test.YtgflnkkhcapkmaaHq
/- Layer 4: the table of lengths. -/
namespace Go.Proofs.Ytgflnkkhcapkmaa
open Go.RowKit
set_option linter.unusedVariables false

/-- a table's cells: how many codes of each length there are; the symbols -/
def tabA (f : Nat → Nat) (a : Option Addr) (n : Nat) : Array Value := ((List.range 16).map (fun i => Value.int .i64 (f i : Int)) ++ [Value.slice a n n]).toArray
theorem tabA_size (f : Nat → Nat) (a : Option Addr) (n : Nat) : (tabA f a n).size = 17 := by simp [tabA]
theorem tabA_one (f : Nat → Nat) (a : Option Addr) (n : Nat) : (tabA f a n).all (·.oneCell') = true := by
  rw [Array.all_eq_true_iff_forall_mem]
  intro v hv
  simp only [tabA, List.mem_toArray, List.mem_append, List.mem_map, List.mem_singleton] at hv
  rcases hv with ⟨n, _, rfl⟩ | rfl
  · rfl
  · rfl
theorem tabA_at (f : Nat → Nat) (a : Option Addr) (n k : Nat) (h : k < 16) : (tabA f a n)[k]? = some (.int .i64 (f k : Int)) := by
  simp only [tabA, List.getElem?_toArray]
  rw [List.getElem?_append_left (by simpa using h)]
  simp [h]
theorem tabA_sl (f : Nat → Nat) (a : Option Addr) (n : Nat) : (tabA f a n)[16]? = some (.slice a n n) := by
  simp only [tabA, List.getElem?_toArray]
  rw [List.getElem?_append_right (by simp)]
  simp
theorem zero27 (w : World) : (zeroValue 27).run Try.prog w = .ok (.agg (tabA (fun _ => 0) none 0)) w := Try.zeroValue27 w
theorem built27 (f : Nat → Nat) (a : Option Addr) (n : Nat) : Try.prog.built 27 [(0, .agg (row16 f)), (1, .slice a n n)] = some (tabA f a n) := by kernel_rfl
/-- what New tells of lengths that may be a table: the symbols lie in a block of their own -/
def NewPost (zs : List Int) (w : World) (e : Ending) (w' : World) : Prop :=
  ∃ b, w.heap.size ≤ b ∧ Blk w' b (intA (Hf.sy zs zs.length) (Hf.st zs 16)) 3 ∧ e = .returned (.tuple #[.agg (tabA (Hf.cn zs) (some ⟨b, 0, none⟩) (Hf.st zs 16)), .int .i64 0]) ∧ Below w.heap.size w w'
def NwRel (zs : List Int) (w : World) (b2 b4 b6 b8 : Nat) (i : Value) (wr : World) : Prop :=
  ∃ k : Nat, k ≤ zs.length ∧ i = .int .i64 k ∧ Blk wr b2 (tabA (fun _ => 0) none 0) 27 ∧ Blk wr b4 (row16 (Hf.cn zs)) 25 ∧ Blk wr b6 (row16 fun n => Hf.st zs n + Hf.cn (zs.take k) n) 25 ∧ Blk wr b8 (intA (Hf.sy zs k) (Hf.st zs 16)) 3 ∧ Below w.heap.size w wr
theorem sy_step (zs : List Int) (k N : Nat) (h : k < zs.length) (h0 : 0 < zs[k]) : (intA (Hf.sy zs k) N).setIfInBounds (Hf.pos zs k) (.int .i64 (k : Int)) = intA (Hf.sy zs (k + 1)) N := by
  rw [intA_set]
  apply intA_congr
  intro n hn
  rw [Hf.sy_pos zs k h h0]
theorem sy_skip (zs : List Int) (k N : Nat) (h : k < zs.length) (h0 : zs[k] = 0) : intA (Hf.sy zs k) N = intA (Hf.sy zs (k + 1)) N := by
  apply intA_congr
  intro n hn
  rw [Hf.sy_none zs k h (by omega)]
theorem new_bad (zs : List Int) (a : Option Addr) (b o c n : Nat) (w : World) (hl : zs.length ≤ 9223372036854775807) (ha : Hid (Ints w zs a b o)) (he : errN zs = n) (h0 : n = 1 ∨ n = 4) :
    Calls Try.prog 9 #[.slice a zs.length c] w fun e w' => e = .returned (.tuple #[.agg (tabA (fun _ => 0) none 0), .int .i64 (n : Int)]) ∧ Below w.heap.size w w' := by
  have HC := fun W (h : Below w.heap.size w W) => counted_any zs a b o c W hl (Lib.hid (ha.out.keep h))
  rw [cntV_bad he (by omega)] at HC
  have HC2 := Lib.hid HC
  have q : ((n : Int) != 0) = true := by rw [bne_iff_ne]; omega
  clear HC he ha
  go_enter Try.func9, Try.ntmps9
  go_wp2_with (first
    | (refine wl_alloc 27 _ zero27 rfl rfl ?_; intro W0 b0 B0 l0 k0)
    | (go_at_call 19; refine (HC2.out _ k0).mono ?_; rintro e w5 ⟨rfl, hb5⟩)
    | (refine wl_alloc 25 _ zero25 rfl rfl ?_; intro W1 b1 B1 l1 k1)
    | (refine wl_store 25 16 size25 _ _ rfl rfl _ rfl (row16 fun _ => 0) rfl _ _ B1 (row16_size _) (row16_size _) (row16_one _) ?_; intro W5 hB5 hT5)
    | (refine wl_store 27 17 size27 _ _ rfl rfl _ rfl (tabA (fun _ => 0) none 0) rfl _ _ (hT5.blk ((B0.keep hb5).keep k1) (by have := (B0.keep hb5).lt; omega)) (tabA_size _ _ _) (tabA_size _ _ _) (tabA_one _ _ _) ?_; intro W6 hB6 hT6))
  exact post_cell_tmp (v := .int .i64 (n : Int)) Try.underlying27 rfl size27 Try.results9 hB6 (tabA_size _ _ _) rfl rfl rfl ⟨rfl, hT6.below (hT5.below (bq_trans (bq_trans k0 hb5) k1) (by have := hb5.size; have := k0.size; omega)) l0⟩
set_option maxHeartbeats 2000000 in
theorem new_ok (zs : List Int) (a : Option Addr) (b o c : Nat) (w : World) (ha : Hid (Ints w zs a b o)) (he : errN zs = 0) :
    Calls Try.prog 9 #[.slice a zs.length c] w fun e w' => NewPost zs w e w' := by
  obtain ⟨hl, hin, htab⟩ := errN_ok he
  have HC := fun W (h : Below w.heap.size w W) => counted_any zs a b o c W (by omega) (Lib.hid (ha.out.keep h))
  rw [cntV_ok he] at HC
  have HC2 := Lib.hid HC
  have HF := Lib.hid (fun w => starts_any zs w hl)
  have HIN := Lib.hid hin
  have hst := Hf.st_len zs 16
  clear HC he hin htab
  go_enter Try.func9, Try.ntmps9
  go_upto_region 4 with (first
    | (refine wl_alloc 27 _ zero27 rfl rfl ?_; intro W0 b0 B0 l0 k0)
    | (go_at_call 19; refine (HC2.out _ k0).mono ?_; rintro e w5 ⟨rfl, hb5⟩)
    | (refine wl_alloc 25 _ zero25 rfl rfl ?_; intro W1 b1 B1 l1 k1)
    | (refine wl_store 25 16 size25 _ _ rfl rfl _ rfl _ rfl _ _ B1 (row16_size _) (row16_size _) (row16_one _) ?_; intro W5 hB5 hT5))
  have y0 := k0.size
  have y1 := hb5.size
  have y2 := B0.lt
  have y3 := B1.lt
  have C0 := hT5.blk ((B0.keep hb5).keep k1) (by omega)
  have H1 := Lib.hid (hT5.below (bq_trans (bq_trans k0 hb5) k1) (by omega))
  have g0 : w.heap.size ≤ b0 := l0
  have g1 : w.heap.size ≤ b1 := by omega
  have m0 : b0 ≠ b1 := by omega
  clear HC2 hT5 hb5 B1 l1 k1 B0 k0 l0 y0 y1 y2 y3
  generalize hN : Hf.st zs 16 = N at *
  have HN := Lib.hid hN
  clear hN
  go_wp2_with (first
    | (refine wl_load 25 16 _ Try.underlying25 rfl size25 _ rfl rfl _ rfl _ _ hB5 (row16_size _) ?_)
    | (go_at_call 20; refine (HF.out _).mono ?_; rintro e w6 ⟨rfl, hb6⟩)
    | (refine wl_alloc 25 _ zero25 rfl rfl ?_; intro W6 b6 B6 l6 k6)
    | (refine wl_store 25 16 size25 _ _ rfl rfl _ rfl _ rfl _ _ B6 (row16_size _) (row16_size _) (row16_one _) ?_; intro W7 hB7 hT7)
    | (refine wl_ints _ _ rfl rfl N rfl rfl (by omega) ?_; intro W8 b8 B8 l8 k8))
  have z1 := H1.out.size
  have z2 := hb6.size
  have z3 := k6.size
  have z4 := hT7.size
  have z5 : b6 < W6.heap.size := B6.lt
  have z6 := C0.lt
  have z7 := hB5.lt
  have C7 := hB7.keep k8
  have C0' := (hT7.blk ((C0.keep hb6).keep k6) (by omega)).keep k8
  have C1' := (hT7.blk ((hB5.keep hb6).keep k6) (by omega)).keep k8
  have HE := Lib.hid (bq_trans (hT7.below (bq_trans (bq_trans H1.out hb6) k6) (by omega)) k8)
  have g6 : w.heap.size ≤ b6 := by omega
  have g8 : w.heap.size ≤ b8 := by omega
  have n1 : b6 ≠ b8 := by omega
  have n2 : b8 ≠ b6 := by omega
  have p06 : b0 ≠ b6 := by omega
  have p08 : b0 ≠ b8 := by omega
  have p16 : b1 ≠ b6 := by omega
  have p18 : b1 ≠ b8 := by omega
  clear hB5 C0 H1 hb6 B6 l6 k6 hB7 hT7 l8 k8 z1 z2 z3 z4 z5 z6 z7 HF
  go_loopw [29] (fun i wr => NwRel zs w b0 b1 b6 b8 i wr) (fun i _ => zs.length - (intOf i).toNat)
  case atStart => exact ⟨0, by omega, rfl, C0', C1', by rw [nxt_start]; exact C7, by rw [HN.out]; exact B8, HE.out⟩
  case round =>
    obtain ⟨k, hk, rfl, hb0, hb1, hb6, hb8, hbel⟩ := hrel
    rw [HN.out] at hb8
    have HB := Lib.hid hbel
    clear hbel C7 B8 HE C0' C1'
    by_cases hlt : k < zs.length
    · obtain ⟨rfl, hz0, hz1, hcell⟩ := ha.out.at HB.out k hlt
      have hin := HIN.out k hlt
      obtain ⟨z, hz⟩ : ∃ z, z = zs[k] := ⟨_, rfl⟩
      rw [← hz] at hz0 hz1 hcell hin
      have HZ := Lib.hid hz
      clear hz
      by_cases c3 : 0 < z
      · obtain ⟨m, rfl⟩ : ∃ m : Nat, z = (m : Int) := ⟨z.toNat, by omega⟩
        have hm : m < 16 := by omega
        have epos : Hf.pos zs k = Hf.st zs m + Hf.cn (zs.take k) m := Hf.pos_at zs k m hlt HZ.out.symm
        have hpl : Hf.pos zs k < N := by
          have a1 := Hf.pos_lt zs k m hlt HZ.out.symm (by omega)
          have a2 := Hf.st_mono zs (a := m + 1) (b := 16) (by omega)
          rw [HN.out] at a2
          omega
        have h6 := (hb6.cell m).trans (row16_at _ m hm)
        have f6 := hb6.frozen m
        have h8 := (hb8.cell (Hf.pos zs k)).trans (intA_at _ _ _ hpl)
        have f8 := hb8.frozen (Hf.pos zs k)
        have HS6 := Lib.hid ((hb6.other (a := ⟨b8, Hf.pos zs k, none⟩) (.int .i64 (k : Int)) n1).set m (.int .i64 (((Hf.st zs m + Hf.cn (zs.take k) m : Nat) : Int) + 1)))
        rw [nxt_inc (Hf.st zs) zs k m hlt HZ.out.symm (by omega)] at HS6
        have HS8 := Lib.hid ((hb8.set (Hf.pos zs k) (.int .i64 (k : Int))).other (a := ⟨b6, m, none⟩) (.int .i64 (((Hf.st zs m + Hf.cn (zs.take k) m : Nat) : Int) + 1)) n2)
        rw [sy_step zs k N hlt (by rw [← HZ.out]; omega)] at HS8
        have HS0 := Lib.hid ((hb0.other (a := ⟨b8, Hf.pos zs k, none⟩) (.int .i64 (k : Int)) p08).other (a := ⟨b6, m, none⟩) (.int .i64 (((Hf.st zs m + Hf.cn (zs.take k) m : Nat) : Int) + 1)) p06)
        have HS1 := Lib.hid ((hb1.other (a := ⟨b8, Hf.pos zs k, none⟩) (.int .i64 (k : Int)) p18).other (a := ⟨b6, m, none⟩) (.int .i64 (((Hf.st zs m + Hf.cn (zs.take k) m : Nat) : Int) + 1)) p16)
        rw [← epos] at h6 HS6 HS8 HS0 HS1
        clear hb6 hb8 hb0 hb1 epos
        generalize Hf.pos zs k = x at *
        generalize Hf.sy zs k x = y at *
        go_wp2
        go_roundw
        case rel => exact ⟨k + 1, by omega, by go_num, HS0.out, HS1.out, HS6.out, by rw [HN.out]; exact HS8.out, bq_set (bq_set HB.out _ g8 _) _ g6 _⟩
        case measure => simp [intOf]; omega
      · obtain rfl : z = 0 := by omega
        rw [nxt_same (Hf.st zs) zs k hlt HZ.out.symm] at hb6
        rw [sy_skip zs k N hlt HZ.out.symm] at hb8
        go_wp2
        go_roundw
        case rel => exact ⟨k + 1, by omega, by go_num, hb0, hb1, hb6, by rw [HN.out]; exact hb8, HB.out⟩
        case measure => simp [intOf]; omega
    · obtain rfl : k = zs.length := by omega
      go_wp2_with (first
        | (refine wl_load 25 16 _ Try.underlying25 rfl size25 _ rfl rfl _ rfl _ _ hb1 (row16_size _) ?_)
        | (refine wlg_build 27 _ _ (built27 (Hf.cn zs) (some ⟨b8, 0, none⟩) N) _ rfl rfl rfl ?_)
        | (refine wl_store 27 17 size27 _ _ rfl rfl _ rfl _ rfl _ _ hb0 (tabA_size _ _ _) (tabA_size _ _ _) (tabA_one _ _ _) ?_; intro W6 hB6 hT6))
      refine post_cell_tmp (v := .int .i64 0) Try.underlying27 rfl size27 Try.results9 hB6 (tabA_size _ _ _) rfl rfl rfl ?_
      exact ⟨b8, g8, by rw [HN.out]; exact hT6.blk hb8 (Ne.symm p08), by rw [HN.out], hT6.below HB.out g0⟩
end Go.Proofs.Ytgflnkkhcapkmaa
