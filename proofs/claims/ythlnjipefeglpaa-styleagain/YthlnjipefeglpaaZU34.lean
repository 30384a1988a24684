import Derived.Test.YthlnjipefeglpaaZU33
import Derived.Test.YthlnjipefeglpaaZU29
import Derived.Test.YthlnjipefeglpaaZU22
namespace Go.Proofs.Ythlnjipefeglpaa
open Go.RowKit
set_option linter.unusedVariables false
set_option linter.unusedSimpArgs false
set_option maxRecDepth 100000
def TsRel (w : World) (u : RS) (N bp : Nat) (l la : Value) (wr : World) : Prop :=
  ∃ k : Nat, k ≤ N ∧ la = .int .i64 (lastR 0 (stopsT u k).1) ∧ OwnP wr w.heap.size 65 l (stopsT u k).1 ∧ (stopsT u k).1.length = k ∧ Blk wr bp (stopsT u k).2.cells 79 ∧ Bt bp w wr
def lenOf : Value → Nat
  | .slice _ n _ => n
  | _ => 0
theorem not_lt_dec (v l : Int) : (!decide (v < l)) = decide (l ≤ v) := by
  by_cases h : v < l
  · rw [decide_eq_true h, decide_eq_false (show ¬ l ≤ v by omega)]; rfl
  · rw [decide_eq_false h, decide_eq_true (show l ≤ v by omega)]; rfl
theorem and15_all : (List.range 256).all (fun n => decide (bits BinOp.and IntKind.i64 (n : Int) 15 = ((n % 16 : Nat) : Int))) = true := by kernel_rfl
theorem or64_all : (List.range 256).all (fun n => decide (bits BinOp.or IntKind.i64 (((n / 64 : Nat) : Int) * 64) ((n % 16 : Nat) : Int) = (((n / 64) * 64 + n % 16 : Nat) : Int))) = true := by kernel_rfl
theorem and15 (n : Nat) (h : n ≤ 255) : bits BinOp.and IntKind.i64 (n : Int) 15 = ((n % 16 : Nat) : Int) := by
  have := List.all_eq_true.1 and15_all n (List.mem_range.2 (by omega))
  simpa using this
theorem or64 (n : Nat) (h : n ≤ 255) : bits BinOp.or IntKind.i64 (((n / 64 : Nat) : Int) * 64) ((n % 16 : Nat) : Int) = (((n / 64) * 64 + n % 16 : Nat) : Int) := by
  have := List.all_eq_true.1 or64_all n (List.mem_range.2 (by omega))
  exact of_decide_eq_true this
theorem grBad_nat (n : Nat) : grBad (n : Int) = (decide (2 < n / 64) || decide (0 < n / 16 % 4) || decide (n % 16 = 0) || decide (8 < n % 16)) := by
  unfold grBad
  congr 1
  · congr 1
    · congr 1
      · exact decide_eq_decide.2 (by omega)
      · exact decide_eq_decide.2 (by omega)
    · exact decide_eq_decide.2 (by omega)
  · exact decide_eq_decide.2 (by omega)
set_option maxHeartbeats 4000000 in
theorem ptstops_any (x : RS) (bp : Nat) (w : World) (hx : Tk8 w bp x) (hs : x.s.size ≤ 1000000) :
    Calls Try.prog 61 #[.pointer (some ⟨bp, 0, none⟩)] w fun e w' => ∃ sv, e = .returned (.tuple #[.int .i64 (x.li 1 / 64), sv]) ∧ OwnP w' w.heap.size 65 sv (stopsT ((x.liS 1).dem (grBad (x.li 1)) 3) (x.li 1 % 16).toNat).1 ∧ Tk8 w' bp (stopsT ((x.liS 1).dem (grBad (x.li 1)) 3) (x.li 1 % 16).toNat).2 ∧ Bt bp w w' := by
  have HN : Hid (∀ W, Blk W bp x.cells 79 → Calls Try.prog 55 #[.pointer (some ⟨bp, 0, none⟩), .int .i64 1] W fun e w' => e = .returned (.int .i64 (x.li 1)) ∧ Blk w' bp (x.liS 1).cells 79 ∧ But bp bp W w') := Lib.hid fun W h => tnumber_any x 1 bp W h hs (by decide) (by decide)
  have HVB := li1_bd x
  have hys : (x.liS 1).s.size ≤ 1000000 := RS.liS_size _ _ hs
  have Bp_0 : Blk w bp x.cells 79 := hx
  have hpw := Bp_0.lt
  have HBt : Bt bp w w := but_refl _ _ _
  have SM : SzM w w.heap.size w.heap.size := ⟨Nat.le_refl _⟩
  have hsz : w.heap.size ≤ w.heap.size := Nat.le_refl _
  clear hx hs
  obtain ⟨n, hn⟩ : ∃ n : Nat, x.li 1 = (n : Int) := ⟨(x.li 1).toNat, by omega⟩
  rw [hn] at HN HVB ⊢
  have hn1 : n ≤ 255 := by omega
  clear hn HVB
  generalize x.liS 1 = y at *
  have e64 : (n : Int) / 64 = ((n / 64 : Nat) : Int) := by omega
  have e16 : ((n : Int) % 16).toNat = n % 16 := by omega
  have hand := and15 n hn1
  have hor := or64 n hn1
  rw [grBad_nat, e64, e16]
  have hBn : n / 16 % 4 = 0 ↔ n = n / 64 * 64 + n % 16 := by omega
  have hs3 : n / 64 ≤ 3 := by omega
  have hm15 : n % 16 ≤ 15 := by omega
  clear e16
  obtain ⟨sp, hsp⟩ : ∃ s, s = n / 64 := ⟨_, rfl⟩
  obtain ⟨N, hN⟩ : ∃ m, m = n % 16 := ⟨_, rfl⟩
  obtain ⟨t, ht⟩ : ∃ t, t = n / 16 % 4 := ⟨_, rfl⟩
  rw [← hsp, ← hN] at hor hBn ⊢
  rw [← ht] at hBn ⊢
  rw [← hsp] at hs3 e64
  rw [← hN] at hm15 hand
  clear hsp hN ht
  go_enter Try.func61, Try.ntmps61
  go_upto_region 3 with (go_big_may; first
    | (go_at_call 55; (with_reducible refine (HN.out _ Bp_0).mono ?_); rintro e W1 ⟨rfl, Bp_1, k1⟩; have Ob_1 := HBt.but k1 (Or.inl rfl); have Om_1 := SM.but k1 (Or.inl hpw); clear k1 HBt SM Bp_0))
  have HD : Hid (∀ c W, Blk W bp y.cells 79 → Calls Try.prog 56 #[.pointer (some ⟨bp, 0, none⟩), .bool (!c), .int .i64 3] W fun r w' => r = .returned (.tuple #[]) ∧ Blk w' bp (y.dem c 3).cells 79 ∧ But bp bp W w') := Lib.hid fun c W h => demand_any y c 3 bp W h
  clear HN
  go_cut [4, 11, 12, 14, 16, 17, 18, 19, 20, 21, 22, 23, 24, 25, 26, 27, 28, 29, 30, 31, 32, 33, 34, 35] (fun _ _ _ _ _ _ _ _ _ _ _ _ _ _ _ _ _ _ _ _ _ _ _ _ wx => Blk wx bp (y.dem (decide (2 < sp) || decide (0 < t) || decide (N = 0) || decide (8 < N)) 3).cells 79 ∧ Bt bp w wx)
  case first =>
    have bad : ∀ c : Bool, (decide (2 < sp) || decide (0 < t) || decide (N = 0) || decide (8 < N)) = c → Hid (∀ W, Blk W bp y.cells 79 → Calls Try.prog 56 #[.pointer (some ⟨bp, 0, none⟩), .bool (!c), .int .i64 3] W fun r w' => r = .returned (.tuple #[]) ∧ Blk w' bp (y.dem (decide (2 < sp) || decide (0 < t) || decide (N = 0) || decide (8 < N)) 3).cells 79 ∧ But bp bp W w') := fun c h => Lib.hid fun W hW => h ▸ HD.out _ W hW
    clear HD
    by_cases c1 : sp ≤ 2
    rotate_left
    · have q1 : decide ((sp : Int) ≤ 2) = false := decide_eq_false (by omega)
      have HX : Hid (∀ W, Blk W bp y.cells 79 → Calls Try.prog 56 #[.pointer (some ⟨bp, 0, none⟩), .bool false, .int .i64 3] W fun r w' => r = .returned (.tuple #[]) ∧ Blk w' bp (y.dem (decide (2 < sp) || decide (0 < t) || decide (N = 0) || decide (8 < N)) 3).cells 79 ∧ But bp bp W w') := bad true (by simp; omega)
      clear bad hBn
      generalize (y.dem (decide (2 < sp) || decide (0 < t) || decide (N = 0) || decide (8 < N)) 3).cells = uc at *
      go_wp2_with (first
      | (go_at_call 56; (with_reducible refine (HX.out _ Bp_1).mono ?_); rintro e W21 ⟨rfl, Bp_21, k21⟩; have Ob_21 := Ob_1.but k21 (Or.inl rfl); have Om_21 := Om_1.but k21 (Or.inl hpw); clear k21 Ob_1 Om_1 Bp_1))
      go_meet
      case rel => exact ⟨Bp_21, Ob_21⟩
    have q1 : decide ((sp : Int) ≤ 2) = true := decide_eq_true (by omega)
    by_cases c2 : n = sp * 64 + N
    rotate_left
    · have q2 : ((n : Int) == (sp : Int) * 64 + (N : Int)) = false := beq_eq_false_iff_ne.2 (by omega)
      have HX : Hid (∀ W, Blk W bp y.cells 79 → Calls Try.prog 56 #[.pointer (some ⟨bp, 0, none⟩), .bool false, .int .i64 3] W fun r w' => r = .returned (.tuple #[]) ∧ Blk w' bp (y.dem (decide (2 < sp) || decide (0 < t) || decide (N = 0) || decide (8 < N)) 3).cells 79 ∧ But bp bp W w') := bad true (by simp [show 0 < t by omega])
      clear bad hBn
      generalize (y.dem (decide (2 < sp) || decide (0 < t) || decide (N = 0) || decide (8 < N)) 3).cells = uc at *
      go_wp2_with (first
        | (go_at_call 56; (with_reducible refine (HX.out _ Bp_1).mono ?_); rintro e W21 ⟨rfl, Bp_21, k21⟩; have Ob_21 := Ob_1.but k21 (Or.inl rfl); have Om_21 := Om_1.but k21 (Or.inl hpw); clear k21 Ob_1 Om_1 Bp_1))
      go_meet
      case rel => exact ⟨Bp_21, Ob_21⟩
    have q2 : ((n : Int) == (sp : Int) * 64 + (N : Int)) = true := beq_iff_eq.2 (by omega)
    have ht0 : t = 0 := hBn.2 c2
    clear c2 hBn
    by_cases c3 : 1 ≤ N
    rotate_left
    · have q3 : decide ((1 : Int) ≤ (N : Int)) = false := decide_eq_false (by omega)
      have HX : Hid (∀ W, Blk W bp y.cells 79 → Calls Try.prog 56 #[.pointer (some ⟨bp, 0, none⟩), .bool false, .int .i64 3] W fun r w' => r = .returned (.tuple #[]) ∧ Blk w' bp (y.dem (decide (2 < sp) || decide (0 < t) || decide (N = 0) || decide (8 < N)) 3).cells 79 ∧ But bp bp W w') := bad true (by simp [show N = 0 by omega])
      clear bad
      generalize (y.dem (decide (2 < sp) || decide (0 < t) || decide (N = 0) || decide (8 < N)) 3).cells = uc at *
      go_wp2_with (first
        | (go_at_call 56; (with_reducible refine (HX.out _ Bp_1).mono ?_); rintro e W21 ⟨rfl, Bp_21, k21⟩; have Ob_21 := Ob_1.but k21 (Or.inl rfl); have Om_21 := Om_1.but k21 (Or.inl hpw); clear k21 Ob_1 Om_1 Bp_1))
      go_meet
      case rel => exact ⟨Bp_21, Ob_21⟩
    have q3 : decide ((1 : Int) ≤ (N : Int)) = true := decide_eq_true (by omega)
    by_cases c4 : N ≤ 8
    rotate_left
    · have q4 : decide ((N : Int) ≤ 8) = false := decide_eq_false (by omega)
      have HX : Hid (∀ W, Blk W bp y.cells 79 → Calls Try.prog 56 #[.pointer (some ⟨bp, 0, none⟩), .bool false, .int .i64 3] W fun r w' => r = .returned (.tuple #[]) ∧ Blk w' bp (y.dem (decide (2 < sp) || decide (0 < t) || decide (N = 0) || decide (8 < N)) 3).cells 79 ∧ But bp bp W w') := bad true (by simp [show 8 < N by omega])
      clear bad
      generalize (y.dem (decide (2 < sp) || decide (0 < t) || decide (N = 0) || decide (8 < N)) 3).cells = uc at *
      go_wp2_with (first
        | (go_at_call 56; (with_reducible refine (HX.out _ Bp_1).mono ?_); rintro e W21 ⟨rfl, Bp_21, k21⟩; have Ob_21 := Ob_1.but k21 (Or.inl rfl); have Om_21 := Om_1.but k21 (Or.inl hpw); clear k21 Ob_1 Om_1 Bp_1))
      go_meet
      case rel => exact ⟨Bp_21, Ob_21⟩
    have q4 : decide ((N : Int) ≤ 8) = true := decide_eq_true (by omega)
    have HX : Hid (∀ W, Blk W bp y.cells 79 → Calls Try.prog 56 #[.pointer (some ⟨bp, 0, none⟩), .bool true, .int .i64 3] W fun r w' => r = .returned (.tuple #[]) ∧ Blk w' bp (y.dem (decide (2 < sp) || decide (0 < t) || decide (N = 0) || decide (8 < N)) 3).cells 79 ∧ But bp bp W w') := bad false (by simp; omega)
    clear bad
    generalize (y.dem (decide (2 < sp) || decide (0 < t) || decide (N = 0) || decide (8 < N)) 3).cells = uc at *
    go_wp2_with (first
      | (go_at_call 56; (with_reducible refine (HX.out _ Bp_1).mono ?_); rintro e W21 ⟨rfl, Bp_21, k21⟩; have Ob_21 := Ob_1.but k21 (Or.inl rfl); have Om_21 := Om_1.but k21 (Or.inl hpw); clear k21 Ob_1 Om_1 Bp_1))
    go_meet
    case rel => exact ⟨Bp_21, Ob_21⟩
  case rest =>
    obtain ⟨Bp_0, HBt⟩ := hcut
    clear HD hBn Bp_1 Ob_1 Om_1 hor hand e64
    have hus : (y.dem (decide (2 < sp) || decide (0 < t) || decide (N = 0) || decide (8 < N)) 3).s.size ≤ 1000000 := RS.dem_size _ _ _ hys
    obtain ⟨u, hu⟩ : ∃ u, u = y.dem (decide (2 < sp) || decide (0 < t) || decide (N = 0) || decide (8 < N)) 3 := ⟨_, rfl⟩
    rw [← hu] at hus Bp_0
    have HU := Lib.hid hu
    clear hu
    clear hs3
    have CB := Bp_0
    have CT := HBt
    clear Bp_0 HBt
    go_wp2_with fail
    go_loopw [7, 8, 9] (fun l la _ wr => TsRel w u N bp l la wr) (fun l _ _ _ => N - lenOf l)
    case atStart => exact ⟨0, by omega, rfl, ownP_nil _ _ _, rfl, CB, CT⟩
    case round =>
      obtain ⟨k, hk, rfl, hown, hlen, BX, hbt⟩ := hrel
      clear CB CT
      have HEX : Hid (N ≤ k ∨ (stopsT u k).2.e ≠ 0 → stopsT u N = stopsT u k) := Lib.hid (fun h => by
        by_cases hkn : N ≤ k
        · rw [show N = k by omega]
        · have := stops_stuck (h.resolve_left hkn) (N - k)
          rwa [show k + (N - k) = N by omega] at this)
      have hys2 : (stopsT u k).2.s.size ≤ 1000000 := stops_size hus k
      have HST : Hid (∀ L y, stopsT u k = (L, y) → y.e = 0 → stopsT u (k + 1) = (L ++ [y.li 1 :: (stopX L y).cv], (stopX L y).cvS)) := Lib.hid (fun L y h he => by
        show stopStep (stopsT u k) = _
        rw [h]
        exact if_pos he)
      have HFV : Hid (∀ x ∈ (stopsT u (k + 1)).1, x.length = 5 ∧ ∀ v ∈ x, I64 v) := Lib.hid (stops_five _ _)
      obtain ⟨L, z, hLy⟩ : ∃ L z, stopsT u k = (L, z) := ⟨_, _, rfl⟩
      have HST2 := Lib.hid (HST.out L z hLy)
      rw [hLy] at BX hown hlen hys2 HEX ⊢
      clear HST hLy hys
      dsimp only at BX hown hlen hys2 HEX ⊢
      obtain ⟨zs, za, ze⟩ := z
      have HOW := Lib.hid hown
      have HBT := Lib.hid hbt
      have HLN := Lib.hid hlen
      have cx2 : wr.cell? ⟨bp, 2, none⟩ = some (.int .i64 ze) := BX.cell 2
      obtain ⟨sa, sc, rfl⟩ := hown.1.slice
      have ek : (L.map iL).length = k := by rw [List.length_map]; exact hlen
      rw [ek] at HOW ⊢
      clear hown hbt ek
      by_cases hlt : k < N
      · by_cases he : ze = 0
        · subst he
          have HST3 := Lib.hid (HST2.out rfl)
          have HLI : Hid (∀ W, Blk W bp #[.string zs, .int .i64 za, .int .i64 0] 79 → Calls Try.prog 55 #[.pointer (some ⟨bp, 0, none⟩), .int .i64 1] W fun e w' => e = .returned (.int .i64 ((⟨zs, za, 0⟩ : RS).li 1)) ∧ Blk w' bp ((⟨zs, za, 0⟩ : RS).liS 1).cells 79 ∧ But bp bp W w') := Lib.hid fun W h => tnumber_any ⟨zs, za, 0⟩ 1 bp W h hys2 (by decide) (by decide)
          have hy1 : ((⟨zs, za, 0⟩ : RS).liS 1).s.size ≤ 1000000 := RS.liS_size _ 1 hys2
          have HVB := li1_bd ⟨zs, za, 0⟩
          have HST4 : Hid (stopsT u (k + 1) = (L ++ [(⟨zs, za, 0⟩ : RS).li 1 :: (((⟨zs, za, 0⟩ : RS).liS 1).dem (decide ((⟨zs, za, 0⟩ : RS).li 1 < lastR 0 L)) 3).cv], (((⟨zs, za, 0⟩ : RS).liS 1).dem (decide ((⟨zs, za, 0⟩ : RS).li 1 < lastR 0 L)) 3).cvS)) := HST3
          clear HST2 HST3 HEX hys2
          generalize (⟨zs, za, 0⟩ : RS).li 1 = v at *
          generalize (⟨zs, za, 0⟩ : RS).liS 1 = y1 at *
          have HDE : Hid (∀ W, Blk W bp y1.cells 79 → Calls Try.prog 56 #[.pointer (some ⟨bp, 0, none⟩), .bool (decide (lastR 0 L ≤ v)), .int .i64 3] W fun r w' => r = .returned (.tuple #[]) ∧ Blk w' bp (y1.dem (decide (v < lastR 0 L)) 3).cells 79 ∧ But bp bp W w') := Lib.hid fun W h => not_lt_dec v (lastR 0 L) ▸ demand_any y1 (decide (v < lastR 0 L)) 3 bp W h
          have hy2 : (y1.dem (decide (v < lastR 0 L)) 3).s.size ≤ 1000000 := RS.dem_size _ _ _ hy1
          have HLast : Hid (∀ c, lastR 0 (L ++ [v :: c]) = v) := Lib.hid fun c => lastR_snoc _ _ _
          generalize hq : y1.dem (decide (v < lastR 0 L)) 3 = q at *
          clear hq
          generalize lastR 0 L = la at *
          obtain ⟨r, g, b, a, hcv⟩ := list4 _ (cv_len q)
          have HC0 := Lib.hid (fun W h => takecol_any q bp W h hy2)
          rw [hcv] at HC0 HST4
          have HC : Hid (∀ W, Blk W bp q.cells 79 → Calls Try.prog 57 #[.pointer (some ⟨bp, 0, none⟩), .func (.func 58) #[] #[]] W fun e w' => e = .returned (.agg #[.int .i64 r, .int .i64 g, .int .i64 b, .int .i64 a]) ∧ Blk w' bp q.cvS.cells 79 ∧ But bp bp W w') := HC0
          generalize q.cvS = z1 at *
          have H5 : Hid (∀ x ∈ [v, r, g, b, a], I64 x) := Lib.hid (fun x hx => (HFV.out [v, r, g, b, a] (by rw [HST4.out]; simp)).2 x hx)
          have HLE : Hid ((L.map iL).length ≤ 1000000) := Lib.hid (by rw [List.length_map, hlen]; omega)
          have OM : OwnM wr w.heap.size wr.heap.size 65 (.slice sa k sc) L := HOW.out.m
          have SM : SzM wr w.heap.size wr.heap.size := ⟨Nat.le_refl _⟩
          have HBt := HBT.out
          have hsz : w.heap.size ≤ wr.heap.size := HBt.size
          have BX1 : Blk wr bp #[.string zs, .int .i64 za, .int .i64 0] 79 := BX
          have i2 : (k : Int) < (N : Int) := by omega
          have i3 : k < N := hlt
          clear HC0 hcv hy1 hy2 HFV BX HOW HBT hus
          go_upto_region 10 with (go_big_may; first
            | (go_at_call 55; (with_reducible refine (HLI.out _ BX1).mono ?_); rintro e W41 ⟨rfl, Bp_41, k41⟩; have Ob_41 := HBt.but k41 (Or.inl rfl); have Om_41 := SM.but k41 (Or.inl hpw); have Ov_41 := OM.but k41 (Or.inl hpw); clear k41 HBt SM OM BX1)
            | (go_at_call 56; (with_reducible refine (HDE.out _ Bp_41).mono ?_); rintro e W42 ⟨rfl, Bp_42, k42⟩; have Ob_42 := Ob_41.but k42 (Or.inl rfl); have Om_42 := Om_41.but k42 (Or.inl hpw); have Ov_42 := Ov_41.but k42 (Or.inl hpw); clear k42 Ob_41 Om_41 Ov_41 Bp_41))
          go_wp2_with (first
            | (go_at_call 57; (with_reducible refine (HC.out _ Bp_42).mono ?_); rintro e W43 ⟨rfl, Bp_43, k43⟩; have Ob_43 := Ob_42.but k43 (Or.inl rfl); have Om_43 := Om_42.but k43 (Or.inl hpw); have Ov_43 := Ov_42.but k43 (Or.inl hpw); clear k43 Ob_42 Om_42 Ov_42 Bp_42)
            | (refine wlg_slice 26 65 1 _ _ (stop1_run v r g b a) _ rfl rfl rfl ?_; intro W44 bn Bn_44 l44 k44; have npn : bp ≠ bn := Nat.ne_of_lt (Nat.lt_of_lt_of_le Bp_43.lt l44); have lon := Nat.le_trans Om_43.le l44; have Bp_44 := Bp_43.keep k44; have Ob_44 := Ob_43.keep k44; have Om_44 := Om_43.keep k44; have Ov_44 := Ov_43.keep k44; clear l44 k44 Bp_43 Ob_43 Om_43 Ov_43)
            | (refine wl_appC 26 65 5 _ Try.underlying26 sp_info rfl (by decide) _ _ rfl rfl w.heap.size _ rfl (L.map iL) Ov_44.1.1 bn 1 _ _ rfl Bn_44 rfl (by kernel_rfl) HLE.out (Nat.le_trans hsz Om_44.le) ?_; intro vn W45 hO k45 hgr hat; have Bp_45 := Bp_44.under k45 hpw; have Ov := OwnP.snoc (x := [v, r, g, b, a]) Ov_44.1 rfl H5.out hO; have Ob : Bt bp w W45 := ⟨hgr.os.trans Ob_44.os, hgr.tape.trans Ob_44.tape, hgr.output.trans Ob_44.output, Nat.le_trans Ob_44.size hgr.size, fun i hi h1 _ => (k45.block i hi).trans (Ob_44.block i hi h1 h1)⟩; clear hgr hat hO k45 Ov_44 Om_44 Ob_44 Bn_44 Bp_44))
          obtain ⟨va, vc, hvn⟩ := Ov.1.slice
          have HVN : Hid (lenOf vn = k + 1) := Lib.hid (by rw [hvn]; show (List.map iL (L ++ [[v, r, g, b, a]])).length = k + 1; rw [List.length_map, List.length_append, hlen]; rfl)
          clear hvn
          go_roundw
          case rel => exact ⟨k + 1, by omega, by rw [HST4.out]; exact congrArg _ (HLast.out _).symm, by rw [HST4.out]; exact Ov, by rw [HST4.out]; simp [hlen], by rw [HST4.out]; exact Bp_45, Ob⟩
          case measure => rw [HVN.out]; show N - (k + 1) < N - k; omega
        · have q1 : (ze == 0) = false := beq_eq_false_iff_ne.2 he
          have i2 : (k : Int) < (N : Int) := by omega
          have HR := Lib.hid (HEX.out (Or.inr he))
          have BX2 := Lib.hid BX
          clear HEX HST2 HFV hys2 BX
          go_wp2_with fail
          go_ret2
          exact ⟨.slice sa k sc, rfl, by rw [← HU.out, HR.out]; exact HOW.out, by rw [← HU.out, HR.out]; exact BX2.out, HBT.out⟩
      · have i2 : ¬ (k : Int) < (N : Int) := by omega
        have HR := Lib.hid (HEX.out (Or.inl (by omega)))
        have BX2 := Lib.hid BX
        clear HEX HST2 HFV hys2 BX
        go_wp2_with fail
        go_ret2
        exact ⟨.slice sa k sc, rfl, by rw [← HU.out, HR.out]; exact HOW.out, by rw [← HU.out, HR.out]; exact BX2.out, HBT.out⟩
end Go.Proofs.Ythlnjipefeglpaa
namespace Go.Proofs.Ythlnjipefeglpaa
open Go.RowKit
set_option linter.unusedVariables false
set_option linter.unusedSimpArgs false
set_option maxRecDepth 100000
end Go.Proofs.Ythlnjipefeglpaa
namespace Go.Proofs.Ythlnjipefeglpaa
open Go.RowKit
set_option linter.unusedVariables false
set_option linter.unusedSimpArgs false
set_option maxRecDepth 100000
theorem size26g8 : (Try.prog.info? 26).map (·.size) = some 1 := by kernel_rfl
def FlRel (w : World) (WB : Nat) (u : RS) (N bx bf bo bp : Nat) (f : Value → Array Value) (i : Value) (wr : World) : Prop :=
  ∃ (k : Nat) (sv : Value), k ≤ N ∧ i = .int .i64 k ∧ Blk wr bx (stopsT u k).2.cells 53 ∧ Blk wr bf (f sv) 28 ∧ Blk wr bo #[.int .i64 0, .int .i64 0, .int .i64 0, .int .i64 0, .int .i64 0, .int .i64 0, .int .i64 0, .int .i64 0, .int .i64 0, .int .i64 0, .int .i64 0, .int .i64 0, .slice none 0 0, .int .i64 0] 28 ∧ Blk wr bp #[.string ⟨#[]⟩, .int .i64 0, .int .i64 0] 53 ∧
    OwnP wr WB 65 sv (stopsT u k).1 ∧ (stopsT u k).1.length = k ∧ Below w.heap.size w wr ∧ WB ≤ wr.heap.size
end Go.Proofs.Ythlnjipefeglpaa
namespace Go.Proofs.Ythlnjipefeglpaa
open Go.RowKit
set_option linter.unusedVariables false
set_option linter.unusedSimpArgs false
set_option maxRecDepth 100000
end Go.Proofs.Ythlnjipefeglpaa
namespace Go.Proofs.Ythlnjipefeglpaa
open Go.RowKit
set_option linter.unusedVariables false
set_option maxRecDepth 100000
def FillPost (w : World) (x : RS) (e : Ending) (w' : World) : Prop := ∃ sv, e = .returned (.tuple #[.agg (fillC (fillT x).1 sv).toArray, .agg (fillT x).2.cells]) ∧ OwnP w' w.heap.size 65 sv (fillT x).1.st ∧ Below w.heap.size w w'
end Go.Proofs.Ythlnjipefeglpaa
