import Derived.Test.YtfaipbdkkkhacaaYK
import Derived.Test.YtfaipbdkkkhacaaYE
import Derived.Test.YtfaipbdkkkhacaaYL
/- Layer 7: the document's change behind bytes: what its loops do. -/
namespace Go.Proofs.Ytfaipbdkkkhacaa
open Go.RowKit
set_option linter.unusedVariables false

def anyNe (c : Int) (l : List Int) : Bool := l.any (· != c)
theorem anyNe_take (c : Int) (l : List Int) (k : Nat) (h : k < l.length) : anyNe c (l.take (k + 1)) = (anyNe c (l.take k) || (l[k] != c)) := by
  unfold anyNe
  rw [List.take_succ_eq_append_getElem h, List.any_append]
  simp
theorem anyNe_all (c : Int) (l : List Int) (h : l.length = 4) : anyNe c (l.take 4) = !decide (l = [c, c, c, c]) := by
  rw [List.take_of_length_le (by omega)]
  match l, h with
  | [x, y, z, u], _ =>
    rw [Bool.eq_iff_iff]
    simp [anyNe]
theorem ints1_run (x : Int) (w : World) : (Instr.buildSlice 82 1 [(0, .int .i64 x)].toArray).run Try.prog w = .ok (.slice (some ⟨w.heap.size, 0, none⟩) 1 1) (w.alloc (.cells (iA [x]) 3)) := by
  obtain ⟨ie, h1, h2⟩ := Option.map_eq_some_iff.1 int_info
  have hz : ie.zero = some (.int .i64 0) := congrArg (·.1) h2
  have hs : ie.size = 1 := congrArg (·.2.1) h2
  refine run_buildSlice w 82 3 1 _ _ ie (.int .i64 0) Try.underlying82 h1 hz (by rw [hs]; decide) (by rw [hs]; decide) ?_
  rw [hs]; kernel_rfl
def NeRel (m d : List Int) (x y i : Value) : Prop := ∃ k : Nat, k ≤ 4 ∧ i = .int .i64 k ∧ x = .bool (anyNe 0 (d.take k)) ∧ y = .bool (anyNe 256 (m.take k))
def ApRel (bm : Nat) (cs : Array Value) (Wb : World) (zs l : List Int) (sl i : Value) (wr : World) : Prop :=
  ∃ k : Nat, k ≤ 4 ∧ i = .int .i64 k ∧ OwnI wr Wb.heap.size sl (zs ++ l.take k) ∧ Blk wr bm cs 30 ∧ Below Wb.heap.size Wb wr
theorem take_snoc (zs l : List Int) (k : Nat) (h : k < l.length) : zs ++ l.take k ++ [l[k]] = zs ++ l.take (k + 1) := by
  rw [List.take_succ_eq_append_getElem h, List.append_assoc]
theorem or3 (p : Bool) (z c : Int) : p = true ∨ (p = false ∧ (z != c) = true) ∨ (p = false ∧ (z != c) = false) := by
  cases p <;> cases (z != c) <;> simp
theorem cx_cells (m d : List Int) (hm : m.length = 4) (hd : d.length = 4) {w : World} {b : Nat} {t : TypeId} (h : Blk w b (iA (m ++ d)) t) (k : Nat) (hk : k < 4) :
    w.cell? ⟨b, k, none⟩ = some (.int .i64 (m[k]'(by omega))) ∧ w.cell? ⟨b, 4 + k, none⟩ = some (.int .i64 (d[k]'(by omega))) := by
  have e1 := h.cell k
  have e2 := h.cell (4 + k)
  rw [iA_at _ _ (by simp; omega), List.getElem_append_left (by omega)] at e1
  rw [iA_at _ _ (by simp; omega), List.getElem_append_right (by omega)] at e2
  refine ⟨e1, e2.trans ?_⟩
  congr 3
  omega
end Go.Proofs.Ytfaipbdkkkhacaa
/- Layer 7: the document's change behind bytes, way by way. -/
namespace Go.Proofs.Ytfaipbdkkkhacaa
open Go.RowKit
set_option linter.unusedVariables false
set_option maxRecDepth 100000

set_option maxHeartbeats 4000000 in
theorem refputcx_00 (s u3 : ByteArray) (v3 : Int) (m d : List Int) (f1 f2 : List (Nat × Nat)) (w : World) (hs : s.size ≤ 1000000) (hu : u3.size ≤ 100) (hm : m.length = 4) (hd : d.length = 4) (hM : anyNe 256 (m.take 4) = false) (hD : anyNe 0 (d.take 4) = false)
    (HBD : Hid (∀ v ∈ ([] : List Int), -9223372036854775808 ≤ v ∧ v ≤ 9223372036854775807))
    (H1 : Hid (∀ W, Calls Try.prog 45 #[.agg #[.string ⟨#[]⟩, .int .i64 0], .bool false] W fun e w' => e = .returned (.agg (wrA f1)) ∧ Below W.heap.size W w'))
    (H2 : Hid (∀ W, Calls Try.prog 45 #[.agg (wrA f1), .bool false] W fun e w' => e = .returned (.agg (wrA f2)) ∧ Below W.heap.size W w'))
    (H3 : Hid (∀ W sa sb sc, Ints W ([] : List Int) sa sb 0 → Calls Try.prog 44 #[.agg (wrA f2), .int .i64 4, .slice sa 0 sc] W fun e w' => e = .returned (.agg #[.string u3, .int .i64 v3]) ∧ Below W.heap.size W w')) :
    Calls Try.prog 24 #[.string s, .agg (iA (m ++ d))] w fun e w' => e = .returned (.string (s ++ u3)) ∧ Below w.heap.size w w' := by
  have hfld : ∀ W : World, (Instr.field 87 (.agg #[.string u3, .int .i64 v3]) 0).run Try.prog W = .ok (.string u3) W := fun W => by kernel_rfl
  have HM := Lib.hid hM
  have HD := Lib.hid hD
  clear hM hD
  go_enter Try.func24, Try.ntmps24
  go_wp2_with (refine wl_box 30 _ _ rfl rfl (show _ = Value.agg (iA (m ++ d)) from rfl) ?_; intro WB bm BM l1 k1)
  have HK := Lib.hid k1
  have hbW : bm < WB.heap.size := BM.lt
  clear l1 k1
  go_loop [5, 6, 7] (fun x y i => NeRel m d x y i) (fun _ _ i => 4 - (intOf i).toNat)
  case atStart => exact ⟨0, by omega, rfl, rfl, rfl⟩
  case round =>
    obtain ⟨k, hk, rfl, rfl, rfl⟩ := hrel
    by_cases hlt : k < 4
    · obtain ⟨c1, c2⟩ := cx_cells m d hm hd BM k hlt
      have HP := Lib.hid (anyNe_take 0 d k (by omega))
      have HQ := Lib.hid (anyNe_take 256 m k (by omega))
      generalize m[k] = x at *
      generalize d[k] = y at *
      generalize anyNe 0 (d.take k) = p at *
      generalize anyNe 256 (m.take k) = q at *
      rcases or3 p y 0 with rfl | ⟨rfl, hy⟩ | ⟨rfl, hy⟩ <;> rcases or3 q x 256 with rfl | ⟨rfl, hx⟩ | ⟨rfl, hx⟩
      all_goals
        go_wp2
        go_round
        case rel => exact ⟨k + 1, by omega, by go_num, by rw [HP.out]; first | rfl | rw [hy]; rfl, by rw [HQ.out]; first | rfl | rw [hx]; rfl⟩
        case measure => simp [intOf]; omega
    · have e4 : k = 4 := by omega
      have EM : anyNe 256 (m.take k) = false := by rw [e4]; exact HM.out
      have ED : anyNe 0 (d.take k) = false := by rw [e4]; exact HD.out
      rw [EM, ED]
      clear e4 EM ED
      go_wp2
      go_loopw [8, 9] (fun sl i wq => .slice none 0 0 = sl ∧ .int .i64 0 = i ∧ WB = wq) (fun _ _ _ => 0)
      case atStart => exact ⟨rfl, rfl, rfl⟩
      case round =>
        obtain ⟨rfl, rfl, rfl⟩ := hrel
        go_wp2
        go_loopw [8, 10] (fun sl i wq => .slice none 0 0 = sl ∧ .int .i64 0 = i ∧ WB = wq) (fun _ _ _ => 0)
        case atStart => exact ⟨rfl, rfl, rfl⟩
        case round =>
          obtain ⟨rfl, rfl, rfl⟩ := hrel
          have KW := Lib.hid (HK.out)
          clear BM
          have HI := ints_nil WB
          go_wp2_with (first
            | (go_at_call 45; (with_reducible refine (H1.out _).mono ?_); rintro e W21 ⟨rfl, k21⟩; have Hw21 := k21; clear k21)
            | (go_at_call 45; (with_reducible refine (H2.out _).mono ?_); rintro e W22 ⟨rfl, k22⟩; have Hw22 := bq_trans Hw21 k22; clear k22 Hw21)
            | (refine wl_alloc 87 _ zero87 rfl rfl ?_; intro W23 bo Bo_23 l23 k23; have go : WB.heap.size ≤ bo := Nat.le_trans Hw22.size l23; have Hw23 := bq_trans Hw22 k23; clear l23 k23 Hw22)
            | (refine wl_store 87 2 size87 _ _ rfl rfl _ rfl _ rfl _ _ Bo_23 rfl rfl (by kernel_rfl) ?_; intro W24 Bo_24 T24; have Hw24 := T24.below Hw23 go; clear T24 Bo_23 Hw23)
            | (refine wl_load 87 2 _ Try.underlying87 rfl size87 _ rfl rfl _ rfl _ _ Bo_24 rfl ?_)
            | (go_at_call 44; (with_reducible refine (H3.out _ _ _ _ (HI.keep Hw24)).mono ?_); rintro e W25 ⟨rfl, k25⟩; have Bo_25 := Bo_24.keep k25; have Hw25 := bq_trans Hw24 k25; clear k25 Bo_24 Hw24))
          go_ret
          exact ⟨rfl, bq_trans KW.out Hw25⟩
end Go.Proofs.Ytfaipbdkkkhacaa
/- Layer 7: the document's change behind bytes, way by way. -/
namespace Go.Proofs.Ytfaipbdkkkhacaa
open Go.RowKit
set_option linter.unusedVariables false
set_option maxRecDepth 100000

set_option maxHeartbeats 4000000 in
theorem refputcx_01 (s u3 : ByteArray) (v3 : Int) (m d : List Int) (f1 f2 : List (Nat × Nat)) (w : World) (hs : s.size ≤ 1000000) (hu : u3.size ≤ 100) (hm : m.length = 4) (hd : d.length = 4) (hM : anyNe 256 (m.take 4) = false) (hD : anyNe 0 (d.take 4) = true)
    (HBD : Hid (∀ v ∈ ([] ++ d), -9223372036854775808 ≤ v ∧ v ≤ 9223372036854775807))
    (H1 : Hid (∀ W, Calls Try.prog 45 #[.agg #[.string ⟨#[]⟩, .int .i64 0], .bool true] W fun e w' => e = .returned (.agg (wrA f1)) ∧ Below W.heap.size W w'))
    (H2 : Hid (∀ W, Calls Try.prog 45 #[.agg (wrA f1), .bool false] W fun e w' => e = .returned (.agg (wrA f2)) ∧ Below W.heap.size W w'))
    (H3 : Hid (∀ W sa sb sc, Ints W ([] ++ d) sa sb 0 → Calls Try.prog 44 #[.agg (wrA f2), .int .i64 4, .slice sa 4 sc] W fun e w' => e = .returned (.agg #[.string u3, .int .i64 v3]) ∧ Below W.heap.size W w')) :
    Calls Try.prog 24 #[.string s, .agg (iA (m ++ d))] w fun e w' => e = .returned (.string (s ++ u3)) ∧ Below w.heap.size w w' := by
  have hfld : ∀ W : World, (Instr.field 87 (.agg #[.string u3, .int .i64 v3]) 0).run Try.prog W = .ok (.string u3) W := fun W => by kernel_rfl
  have HM := Lib.hid hM
  have HD := Lib.hid hD
  clear hM hD
  go_enter Try.func24, Try.ntmps24
  go_wp2_with (refine wl_box 30 _ _ rfl rfl (show _ = Value.agg (iA (m ++ d)) from rfl) ?_; intro WB bm BM l1 k1)
  have HK := Lib.hid k1
  have hbW : bm < WB.heap.size := BM.lt
  clear l1 k1
  go_loop [5, 6, 7] (fun x y i => NeRel m d x y i) (fun _ _ i => 4 - (intOf i).toNat)
  case atStart => exact ⟨0, by omega, rfl, rfl, rfl⟩
  case round =>
    obtain ⟨k, hk, rfl, rfl, rfl⟩ := hrel
    by_cases hlt : k < 4
    · obtain ⟨c1, c2⟩ := cx_cells m d hm hd BM k hlt
      have HP := Lib.hid (anyNe_take 0 d k (by omega))
      have HQ := Lib.hid (anyNe_take 256 m k (by omega))
      generalize m[k] = x at *
      generalize d[k] = y at *
      generalize anyNe 0 (d.take k) = p at *
      generalize anyNe 256 (m.take k) = q at *
      rcases or3 p y 0 with rfl | ⟨rfl, hy⟩ | ⟨rfl, hy⟩ <;> rcases or3 q x 256 with rfl | ⟨rfl, hx⟩ | ⟨rfl, hx⟩
      all_goals
        go_wp2
        go_round
        case rel => exact ⟨k + 1, by omega, by go_num, by rw [HP.out]; first | rfl | rw [hy]; rfl, by rw [HQ.out]; first | rfl | rw [hx]; rfl⟩
        case measure => simp [intOf]; omega
    · have e4 : k = 4 := by omega
      have EM : anyNe 256 (m.take k) = false := by rw [e4]; exact HM.out
      have ED : anyNe 0 (d.take k) = true := by rw [e4]; exact HD.out
      rw [EM, ED]
      clear e4 EM ED
      go_wp2
      go_loopw [8, 9] (fun sl i wq => .slice none 0 0 = sl ∧ .int .i64 0 = i ∧ WB = wq) (fun _ _ _ => 0)
      case atStart => exact ⟨rfl, rfl, rfl⟩
      case round =>
        obtain ⟨rfl, rfl, rfl⟩ := hrel
        go_wp2
        have OW := ownI_nil WB WB.heap.size
        have HB := Lib.hid (bq_refl WB)
        go_loopw [8, 10] (fun sl i wr => ApRel bm (iA (m ++ d)) WB ([] : List Int) d sl i wr) (fun _ i _ => 4 - (intOf i).toNat)
        case atStart => exact ⟨0, by omega, rfl, by rw [List.take_zero, List.append_nil]; exact OW, BM, HB.out⟩
        case round =>
          obtain ⟨k, hk, rfl, OW, BM, hb⟩ := hrel
          have HB := Lib.hid hb
          clear hb
          by_cases hlt : k < 4
          · have hcell := (cx_cells m d hm hd BM k hlt).2
            have HT := Lib.hid (take_snoc ([] : List Int) d k (by omega))
            have hzl : (([] : List Int) ++ d.take k).length ≤ 100 := by simp only [List.length_append, List.length_take, List.length_nil]; omega
            generalize d[k] = z at *
            have hwb : WB.heap.size ≤ wr.heap.size := HB.out.size
            have hbm : bm < WB.heap.size := hbW
            go_wp2_with (first
              | (refine wlg_slice 82 3 1 _ _ (ints1_run z) _ rfl rfl rfl ?_; intro W7 b7 B7 l7 k7; have OW7 := OW.keep k7; have BM7 := BM.keep k7; have HB7 := HB.out.trans (k7.mono HB.out.size))
              | (refine wl_appI _ _ rfl rfl WB.heap.size _ rfl _ OW7 [z] b7 0 1 1 rfl rfl (fun i hi => by have : i = 0 := (by simp at hi; omega); subst this; exact B7.cell 0) (by simp; omega) (by have := k7.size; omega) ?_; intro v8 W8 O8 k8; have BM8 := BM7.under k8 hbm; have HB8 := HB7.trans k8))
            rw [HT.out] at O8
            go_roundw
            case rel => exact ⟨k + 1, by omega, by go_num, O8, BM8, HB8⟩
            case measure => simp [intOf]; omega
          · rw [List.take_of_length_le (by omega)] at OW
            obtain ⟨sa, sb, sc, rfl, HI⟩ := OW.intsN (N := 4) (by simp only [List.length_append, List.length_nil]; omega) HBD.out
            have KW := Lib.hid (bq_trans HK.out HB.out)
            clear BM HB OW
            go_wp2_with (first
              | (go_at_call 45; (with_reducible refine (H1.out _).mono ?_); rintro e W21 ⟨rfl, k21⟩; have Hw21 := k21; clear k21)
              | (go_at_call 45; (with_reducible refine (H2.out _).mono ?_); rintro e W22 ⟨rfl, k22⟩; have Hw22 := bq_trans Hw21 k22; clear k22 Hw21)
              | (refine wl_alloc 87 _ zero87 rfl rfl ?_; intro W23 bo Bo_23 l23 k23; have go : wr.heap.size ≤ bo := Nat.le_trans Hw22.size l23; have Hw23 := bq_trans Hw22 k23; clear l23 k23 Hw22)
              | (refine wl_store 87 2 size87 _ _ rfl rfl _ rfl _ rfl _ _ Bo_23 rfl rfl (by kernel_rfl) ?_; intro W24 Bo_24 T24; have Hw24 := T24.below Hw23 go; clear T24 Bo_23 Hw23)
              | (refine wl_load 87 2 _ Try.underlying87 rfl size87 _ rfl rfl _ rfl _ _ Bo_24 rfl ?_)
              | (go_at_call 44; (with_reducible refine (H3.out _ _ _ _ (HI.keep Hw24)).mono ?_); rintro e W25 ⟨rfl, k25⟩; have Bo_25 := Bo_24.keep k25; have Hw25 := bq_trans Hw24 k25; clear k25 Bo_24 Hw24))
            go_ret
            exact ⟨rfl, bq_trans KW.out Hw25⟩
end Go.Proofs.Ytfaipbdkkkhacaa
/- Layer 7: the document's change behind bytes, way by way. -/
namespace Go.Proofs.Ytfaipbdkkkhacaa
open Go.RowKit
set_option linter.unusedVariables false
set_option maxRecDepth 100000

set_option maxHeartbeats 4000000 in
theorem refputcx_10 (s u3 : ByteArray) (v3 : Int) (m d : List Int) (f1 f2 : List (Nat × Nat)) (w : World) (hs : s.size ≤ 1000000) (hu : u3.size ≤ 100) (hm : m.length = 4) (hd : d.length = 4) (hM : anyNe 256 (m.take 4) = true) (hD : anyNe 0 (d.take 4) = false)
    (HBD : Hid (∀ v ∈ ([] ++ m), -9223372036854775808 ≤ v ∧ v ≤ 9223372036854775807))
    (H1 : Hid (∀ W, Calls Try.prog 45 #[.agg #[.string ⟨#[]⟩, .int .i64 0], .bool false] W fun e w' => e = .returned (.agg (wrA f1)) ∧ Below W.heap.size W w'))
    (H2 : Hid (∀ W, Calls Try.prog 45 #[.agg (wrA f1), .bool true] W fun e w' => e = .returned (.agg (wrA f2)) ∧ Below W.heap.size W w'))
    (H3 : Hid (∀ W sa sb sc, Ints W ([] ++ m) sa sb 0 → Calls Try.prog 44 #[.agg (wrA f2), .int .i64 4, .slice sa 4 sc] W fun e w' => e = .returned (.agg #[.string u3, .int .i64 v3]) ∧ Below W.heap.size W w')) :
    Calls Try.prog 24 #[.string s, .agg (iA (m ++ d))] w fun e w' => e = .returned (.string (s ++ u3)) ∧ Below w.heap.size w w' := by
  have hfld : ∀ W : World, (Instr.field 87 (.agg #[.string u3, .int .i64 v3]) 0).run Try.prog W = .ok (.string u3) W := fun W => by kernel_rfl
  have HM := Lib.hid hM
  have HD := Lib.hid hD
  clear hM hD
  go_enter Try.func24, Try.ntmps24
  go_wp2_with (refine wl_box 30 _ _ rfl rfl (show _ = Value.agg (iA (m ++ d)) from rfl) ?_; intro WB bm BM l1 k1)
  have HK := Lib.hid k1
  have hbW : bm < WB.heap.size := BM.lt
  clear l1 k1
  go_loop [5, 6, 7] (fun x y i => NeRel m d x y i) (fun _ _ i => 4 - (intOf i).toNat)
  case atStart => exact ⟨0, by omega, rfl, rfl, rfl⟩
  case round =>
    obtain ⟨k, hk, rfl, rfl, rfl⟩ := hrel
    by_cases hlt : k < 4
    · obtain ⟨c1, c2⟩ := cx_cells m d hm hd BM k hlt
      have HP := Lib.hid (anyNe_take 0 d k (by omega))
      have HQ := Lib.hid (anyNe_take 256 m k (by omega))
      generalize m[k] = x at *
      generalize d[k] = y at *
      generalize anyNe 0 (d.take k) = p at *
      generalize anyNe 256 (m.take k) = q at *
      rcases or3 p y 0 with rfl | ⟨rfl, hy⟩ | ⟨rfl, hy⟩ <;> rcases or3 q x 256 with rfl | ⟨rfl, hx⟩ | ⟨rfl, hx⟩
      all_goals
        go_wp2
        go_round
        case rel => exact ⟨k + 1, by omega, by go_num, by rw [HP.out]; first | rfl | rw [hy]; rfl, by rw [HQ.out]; first | rfl | rw [hx]; rfl⟩
        case measure => simp [intOf]; omega
    · have e4 : k = 4 := by omega
      have EM : anyNe 256 (m.take k) = true := by rw [e4]; exact HM.out
      have ED : anyNe 0 (d.take k) = false := by rw [e4]; exact HD.out
      rw [EM, ED]
      clear e4 EM ED
      go_wp2
      have OW := ownI_nil WB WB.heap.size
      have HB := Lib.hid (bq_refl WB)
      go_loopw [8, 9] (fun sl i wr => ApRel bm (iA (m ++ d)) WB ([] : List Int) m sl i wr) (fun _ i _ => 4 - (intOf i).toNat)
      case atStart => exact ⟨0, by omega, rfl, by rw [List.take_zero, List.append_nil]; exact OW, BM, HB.out⟩
      case round =>
        obtain ⟨k, hk, rfl, OW, BM, hb⟩ := hrel
        have HB := Lib.hid hb
        clear hb
        by_cases hlt : k < 4
        · have hcell := (cx_cells m d hm hd BM k hlt).1
          have HT := Lib.hid (take_snoc ([] : List Int) m k (by omega))
          have hzl : (([] : List Int) ++ m.take k).length ≤ 100 := by simp only [List.length_append, List.length_take, List.length_nil]; omega
          generalize m[k] = z at *
          have hwb : WB.heap.size ≤ wr.heap.size := HB.out.size
          have hbm : bm < WB.heap.size := hbW
          go_wp2_with (first
            | (refine wlg_slice 82 3 1 _ _ (ints1_run z) _ rfl rfl rfl ?_; intro W7 b7 B7 l7 k7; have OW7 := OW.keep k7; have BM7 := BM.keep k7; have HB7 := HB.out.trans (k7.mono HB.out.size))
            | (refine wl_appI _ _ rfl rfl WB.heap.size _ rfl _ OW7 [z] b7 0 1 1 rfl rfl (fun i hi => by have : i = 0 := (by simp at hi; omega); subst this; exact B7.cell 0) (by simp; omega) (by have := k7.size; omega) ?_; intro v8 W8 O8 k8; have BM8 := BM7.under k8 hbm; have HB8 := HB7.trans k8))
          rw [HT.out] at O8
          go_roundw
          case rel => exact ⟨k + 1, by omega, by go_num, O8, BM8, HB8⟩
          case measure => simp [intOf]; omega
        · rw [List.take_of_length_le (by omega)] at OW
          go_wp2
          go_loopw [8, 10] (fun sl i wq => u8 = sl ∧ .int .i64 0 = i ∧ wr = wq) (fun _ _ _ => 0)
          case atStart => exact ⟨rfl, rfl, rfl⟩
          case round =>
            obtain ⟨rfl, rfl, rfl⟩ := hrel
            obtain ⟨sa, sb, sc, rfl, HI⟩ := OW.intsN (N := 4) (by simp only [List.length_append, List.length_nil]; omega) HBD.out
            have KW := Lib.hid (bq_trans HK.out HB.out)
            clear BM HB OW
            go_wp2_with (first
              | (go_at_call 45; (with_reducible refine (H1.out _).mono ?_); rintro e W21 ⟨rfl, k21⟩; have Hw21 := k21; clear k21)
              | (go_at_call 45; (with_reducible refine (H2.out _).mono ?_); rintro e W22 ⟨rfl, k22⟩; have Hw22 := bq_trans Hw21 k22; clear k22 Hw21)
              | (refine wl_alloc 87 _ zero87 rfl rfl ?_; intro W23 bo Bo_23 l23 k23; have go : wr.heap.size ≤ bo := Nat.le_trans Hw22.size l23; have Hw23 := bq_trans Hw22 k23; clear l23 k23 Hw22)
              | (refine wl_store 87 2 size87 _ _ rfl rfl _ rfl _ rfl _ _ Bo_23 rfl rfl (by kernel_rfl) ?_; intro W24 Bo_24 T24; have Hw24 := T24.below Hw23 go; clear T24 Bo_23 Hw23)
              | (refine wl_load 87 2 _ Try.underlying87 rfl size87 _ rfl rfl _ rfl _ _ Bo_24 rfl ?_)
              | (go_at_call 44; (with_reducible refine (H3.out _ _ _ _ (HI.keep Hw24)).mono ?_); rintro e W25 ⟨rfl, k25⟩; have Bo_25 := Bo_24.keep k25; have Hw25 := bq_trans Hw24 k25; clear k25 Bo_24 Hw24))
            go_ret
            exact ⟨rfl, bq_trans KW.out Hw25⟩
end Go.Proofs.Ytfaipbdkkkhacaa
/- Layer 7: the document's change behind bytes, way by way. -/
namespace Go.Proofs.Ytfaipbdkkkhacaa
open Go.RowKit
set_option linter.unusedVariables false
set_option maxRecDepth 100000

set_option maxHeartbeats 4000000 in
theorem refputcx_11 (s u3 : ByteArray) (v3 : Int) (m d : List Int) (f1 f2 : List (Nat × Nat)) (w : World) (hs : s.size ≤ 1000000) (hu : u3.size ≤ 100) (hm : m.length = 4) (hd : d.length = 4) (hM : anyNe 256 (m.take 4) = true) (hD : anyNe 0 (d.take 4) = true)
    (HBD : Hid (∀ v ∈ ([] ++ m ++ d), -9223372036854775808 ≤ v ∧ v ≤ 9223372036854775807))
    (H1 : Hid (∀ W, Calls Try.prog 45 #[.agg #[.string ⟨#[]⟩, .int .i64 0], .bool true] W fun e w' => e = .returned (.agg (wrA f1)) ∧ Below W.heap.size W w'))
    (H2 : Hid (∀ W, Calls Try.prog 45 #[.agg (wrA f1), .bool true] W fun e w' => e = .returned (.agg (wrA f2)) ∧ Below W.heap.size W w'))
    (H3 : Hid (∀ W sa sb sc, Ints W ([] ++ m ++ d) sa sb 0 → Calls Try.prog 44 #[.agg (wrA f2), .int .i64 4, .slice sa 8 sc] W fun e w' => e = .returned (.agg #[.string u3, .int .i64 v3]) ∧ Below W.heap.size W w')) :
    Calls Try.prog 24 #[.string s, .agg (iA (m ++ d))] w fun e w' => e = .returned (.string (s ++ u3)) ∧ Below w.heap.size w w' := by
  have hfld : ∀ W : World, (Instr.field 87 (.agg #[.string u3, .int .i64 v3]) 0).run Try.prog W = .ok (.string u3) W := fun W => by kernel_rfl
  have HM := Lib.hid hM
  have HD := Lib.hid hD
  clear hM hD
  go_enter Try.func24, Try.ntmps24
  go_wp2_with (refine wl_box 30 _ _ rfl rfl (show _ = Value.agg (iA (m ++ d)) from rfl) ?_; intro WB bm BM l1 k1)
  have HK := Lib.hid k1
  have hbW : bm < WB.heap.size := BM.lt
  clear l1 k1
  go_loop [5, 6, 7] (fun x y i => NeRel m d x y i) (fun _ _ i => 4 - (intOf i).toNat)
  case atStart => exact ⟨0, by omega, rfl, rfl, rfl⟩
  case round =>
    obtain ⟨k, hk, rfl, rfl, rfl⟩ := hrel
    by_cases hlt : k < 4
    · obtain ⟨c1, c2⟩ := cx_cells m d hm hd BM k hlt
      have HP := Lib.hid (anyNe_take 0 d k (by omega))
      have HQ := Lib.hid (anyNe_take 256 m k (by omega))
      generalize m[k] = x at *
      generalize d[k] = y at *
      generalize anyNe 0 (d.take k) = p at *
      generalize anyNe 256 (m.take k) = q at *
      rcases or3 p y 0 with rfl | ⟨rfl, hy⟩ | ⟨rfl, hy⟩ <;> rcases or3 q x 256 with rfl | ⟨rfl, hx⟩ | ⟨rfl, hx⟩
      all_goals
        go_wp2
        go_round
        case rel => exact ⟨k + 1, by omega, by go_num, by rw [HP.out]; first | rfl | rw [hy]; rfl, by rw [HQ.out]; first | rfl | rw [hx]; rfl⟩
        case measure => simp [intOf]; omega
    · have e4 : k = 4 := by omega
      have EM : anyNe 256 (m.take k) = true := by rw [e4]; exact HM.out
      have ED : anyNe 0 (d.take k) = true := by rw [e4]; exact HD.out
      rw [EM, ED]
      clear e4 EM ED
      go_wp2
      have OW := ownI_nil WB WB.heap.size
      have HB := Lib.hid (bq_refl WB)
      go_loopw [8, 9] (fun sl i wr => ApRel bm (iA (m ++ d)) WB ([] : List Int) m sl i wr) (fun _ i _ => 4 - (intOf i).toNat)
      case atStart => exact ⟨0, by omega, rfl, by rw [List.take_zero, List.append_nil]; exact OW, BM, HB.out⟩
      case round =>
        obtain ⟨k, hk, rfl, OW, BM, hb⟩ := hrel
        have HB := Lib.hid hb
        clear hb
        by_cases hlt : k < 4
        · have hcell := (cx_cells m d hm hd BM k hlt).1
          have HT := Lib.hid (take_snoc ([] : List Int) m k (by omega))
          have hzl : (([] : List Int) ++ m.take k).length ≤ 100 := by simp only [List.length_append, List.length_take, List.length_nil]; omega
          generalize m[k] = z at *
          have hwb : WB.heap.size ≤ wr.heap.size := HB.out.size
          have hbm : bm < WB.heap.size := hbW
          go_wp2_with (first
            | (refine wlg_slice 82 3 1 _ _ (ints1_run z) _ rfl rfl rfl ?_; intro W7 b7 B7 l7 k7; have OW7 := OW.keep k7; have BM7 := BM.keep k7; have HB7 := HB.out.trans (k7.mono HB.out.size))
            | (refine wl_appI _ _ rfl rfl WB.heap.size _ rfl _ OW7 [z] b7 0 1 1 rfl rfl (fun i hi => by have : i = 0 := (by simp at hi; omega); subst this; exact B7.cell 0) (by simp; omega) (by have := k7.size; omega) ?_; intro v8 W8 O8 k8; have BM8 := BM7.under k8 hbm; have HB8 := HB7.trans k8))
          rw [HT.out] at O8
          go_roundw
          case rel => exact ⟨k + 1, by omega, by go_num, O8, BM8, HB8⟩
          case measure => simp [intOf]; omega
        · rw [List.take_of_length_le (by omega)] at OW
          go_wp2
          go_loopw [8, 10] (fun sl i wr => ApRel bm (iA (m ++ d)) WB ([] ++ m) d sl i wr) (fun _ i _ => 4 - (intOf i).toNat)
          case atStart => exact ⟨0, by omega, rfl, by rw [List.take_zero, List.append_nil]; exact OW, BM, HB.out⟩
          case round =>
            obtain ⟨k, hk, rfl, OW, BM, hb⟩ := hrel
            have HB := Lib.hid hb
            clear hb
            by_cases hlt : k < 4
            · have hcell := (cx_cells m d hm hd BM k hlt).2
              have HT := Lib.hid (take_snoc ([] ++ m) d k (by omega))
              have hzl : (([] ++ m) ++ d.take k).length ≤ 100 := by simp only [List.length_append, List.length_take, List.length_nil]; omega
              generalize d[k] = z at *
              have hwb : WB.heap.size ≤ wr.heap.size := HB.out.size
              have hbm : bm < WB.heap.size := hbW
              go_wp2_with (first
                | (refine wlg_slice 82 3 1 _ _ (ints1_run z) _ rfl rfl rfl ?_; intro W7 b7 B7 l7 k7; have OW7 := OW.keep k7; have BM7 := BM.keep k7; have HB7 := HB.out.trans (k7.mono HB.out.size))
                | (refine wl_appI _ _ rfl rfl WB.heap.size _ rfl _ OW7 [z] b7 0 1 1 rfl rfl (fun i hi => by have : i = 0 := (by simp at hi; omega); subst this; exact B7.cell 0) (by simp; omega) (by have := k7.size; omega) ?_; intro v8 W8 O8 k8; have BM8 := BM7.under k8 hbm; have HB8 := HB7.trans k8))
              rw [HT.out] at O8
              go_roundw
              case rel => exact ⟨k + 1, by omega, by go_num, O8, BM8, HB8⟩
              case measure => simp [intOf]; omega
            · rw [List.take_of_length_le (by omega)] at OW
              obtain ⟨sa, sb, sc, rfl, HI⟩ := OW.intsN (N := 8) (by simp only [List.length_append, List.length_nil]; omega) HBD.out
              have KW := Lib.hid (bq_trans HK.out HB.out)
              clear BM HB OW
              go_wp2_with (first
                | (go_at_call 45; (with_reducible refine (H1.out _).mono ?_); rintro e W21 ⟨rfl, k21⟩; have Hw21 := k21; clear k21)
                | (go_at_call 45; (with_reducible refine (H2.out _).mono ?_); rintro e W22 ⟨rfl, k22⟩; have Hw22 := bq_trans Hw21 k22; clear k22 Hw21)
                | (refine wl_alloc 87 _ zero87 rfl rfl ?_; intro W23 bo Bo_23 l23 k23; have go : wr.heap.size ≤ bo := Nat.le_trans Hw22.size l23; have Hw23 := bq_trans Hw22 k23; clear l23 k23 Hw22)
                | (refine wl_store 87 2 size87 _ _ rfl rfl _ rfl _ rfl _ _ Bo_23 rfl rfl (by kernel_rfl) ?_; intro W24 Bo_24 T24; have Hw24 := T24.below Hw23 go; clear T24 Bo_23 Hw23)
                | (refine wl_load 87 2 _ Try.underlying87 rfl size87 _ rfl rfl _ rfl _ _ Bo_24 rfl ?_)
                | (go_at_call 44; (with_reducible refine (H3.out _ _ _ _ (HI.keep Hw24)).mono ?_); rintro e W25 ⟨rfl, k25⟩; have Bo_25 := Bo_24.keep k25; have Hw25 := bq_trans Hw24 k25; clear k25 Bo_24 Hw24))
              go_ret
              exact ⟨rfl, bq_trans KW.out Hw25⟩
end Go.Proofs.Ytfaipbdkkkhacaa
/- Layer 7: the document's matrix and change behind bytes. -/
namespace Go.Proofs.Ytfaipbdkkkhacaa
open Go.RowKit
set_option linter.unusedVariables false

theorem refnumbers2 (fs : List (Nat × Nat)) (x y : Int) (W : World) (g : Nat) (h : F.ok fs) (hl : F.len fs ≤ 1000) (hw : mxW [x, y] ≤ 24) (hx : I64 x) (hy : I64 y) (hB : Blk W g (iA [x, y]) 3) :
    Calls Try.prog 44 #[.agg (wrA fs), .int .i64 5, .slice (some ⟨g, 0, none⟩) 2 2] W fun e w' => e = .returned (.agg (wrA (fs ++ F.nums 5 [x, y]))) ∧ Below W.heap.size W w' :=
  refnumbers_any fs 5 [x, y] _ g 0 2 W h (by rw [nums2_len]; omega) (by omega) (Nat.lt_of_le_of_lt hw (by decide)) (by omega) (by simp) (Lib.hid (hB.ints (i64_2 hx hy)))
theorem refputmatrix_ok (s : ByteArray) (a b c d x y : Int) (w : World) (hs : s.size ≤ 1000000) (h : matOk a b c d x y = true) :
    Calls Try.prog 23 #[.string s, .agg #[.int .i64 a, .int .i64 b, .int .i64 c, .int .i64 d, .int .i64 x, .int .i64 y]] w fun e w' => e = .returned (.string (s ++ bs (F.bys (matF a b c d x y)))) ∧ Below w.heap.size w w' := by
  have m := matFacts h
  obtain ⟨fa, fb, fc, fd, fx, fy⟩ := m.fit
  have hu : (bs (F.bys (matF a b c d x y))).size ≤ 100 := by rw [bs_size, F.bys_len]; have := m.l5; omega
  have H1 := Lib.hid (fun W => flag_any [] (q65 a d) W F.ok_nil (by simp [F.len]))
  have H2 : Hid (q65 a d = true → ∀ W g, Blk W g (iA [a, d]) 3 → Calls Try.prog 44 #[.agg (wrA ([] ++ [(b01 (q65 a d), 1)])), .int .i64 5, .slice (some ⟨g, 0, none⟩) 2 2] W fun e w' => e = .returned (.agg (wrA (mF2 a d))) ∧ Below W.heap.size W w') := Lib.hid fun hq W g hB => by
    unfold mF2
    rw [if_pos hq]
    exact refnumbers2 _ a d W g m.o1 (by rw [m.l1]; omega) m.w1 fa fd hB
  have E2 : Hid (q65 a d = false → mF2 a d = [] ++ [(b01 (q65 a d), 1)]) := Lib.hid fun hq => by unfold mF2; rw [hq]; rfl
  have H3 := Lib.hid (fun W => flag_any (mF2 a d) (qnz b c) W m.o2 (by have := m.l2; omega))
  have H4 : Hid (qnz b c = true → ∀ W g, Blk W g (iA [b, c]) 3 → Calls Try.prog 44 #[.agg (wrA (mF2 a d ++ [(b01 (qnz b c), 1)])), .int .i64 5, .slice (some ⟨g, 0, none⟩) 2 2] W fun e w' => e = .returned (.agg (wrA (mF4 a b c d))) ∧ Below W.heap.size W w') := Lib.hid fun hq W g hB => by
    unfold mF4
    rw [if_pos hq]
    exact refnumbers2 _ b c W g m.o3 (by have := m.l3; unfold mF3 at this; omega) m.w2 fb fc hB
  have E4 : Hid (qnz b c = false → mF4 a b c d = mF2 a d ++ [(b01 (qnz b c), 1)]) := Lib.hid fun hq => by unfold mF4 mF3; rw [if_neg (by rw [hq]; decide)]
  have H5 : Hid (∀ W g, Blk W g (iA [x, y]) 3 → Calls Try.prog 44 #[.agg (wrA (mF4 a b c d)), .int .i64 5, .slice (some ⟨g, 0, none⟩) 2 2] W fun e w' => e = .returned (.agg #[.string (bs (F.bys (matF a b c d x y))), .int .i64 (F.fr (matF a b c d x y) : Int)]) ∧ Below W.heap.size W w') := Lib.hid fun W g hB =>
    refnumbers2 (mF4 a b c d) x y W g m.o4 (by have := m.l4; omega) (by have := m.w3; omega) fx fy hB
  rcases q65_cases a d with ⟨e1, p1⟩ | ⟨e1, p1⟩ <;> rcases qnz_cases b c with ⟨e2, p2⟩ | ⟨e2, p2⟩
  · exact refputmatrix_11 s _ _ a b c d x y _ _ _ _ _ _ w hs hu p1 p2 e1 e2 H1 H2 E2 H3 H4 E4 H5
  · exact refputmatrix_10 s _ _ a b c d x y _ _ _ _ _ _ w hs hu p1 p2 e1 e2 H1 H2 E2 H3 H4 E4 H5
  · exact refputmatrix_01 s _ _ a b c d x y _ _ _ _ _ _ w hs hu p1 p2 e1 e2 H1 H2 E2 H3 H4 E4 H5
  · exact refputmatrix_00 s _ _ a b c d x y _ _ _ _ _ _ w hs hu p1 p2 e1 e2 H1 H2 E2 H3 H4 E4 H5
theorem refputcx_ok (s : ByteArray) (m d : List Int) (w : World) (hs : s.size ≤ 1000000) (hm : m.length = 4) (hd : d.length = 4) (h : cxOk m d = true) :
    Calls Try.prog 24 #[.string s, .agg (iA (m ++ d))] w fun e w' => e = .returned (.string (s ++ bs (F.bys (cxF m d)))) ∧ Below w.heap.size w w' := by
  have hw := tells_wd h
  have hl := cxF_len_le h hm hd
  have hu : (bs (F.bys (cxF m d))).size ≤ 100 := by rw [bs_size, F.bys_len]; omega
  have H1 := Lib.hid (fun W => flag_any [] (cxB d) W F.ok_nil (by simp [F.len]))
  have H2 := Lib.hid (fun W => flag_any ([] ++ [(b01 (cxB d), 1)]) (cxM m) W (F.ok_one (b01_lt _)) (by show 1 ≤ 1000000; omega))
  have H3 : Hid (∀ W sa sb sc N, (tells m d).length = N → Ints W (tells m d) sa sb 0 → Calls Try.prog 44 #[.agg (wrA (cF2 m d)), .int .i64 4, .slice sa N sc] W fun e w' => e = .returned (.agg (wrA (cxF m d))) ∧ Below W.heap.size W w') := Lib.hid fun W sa sb sc N hN hI => by
    subst hN
    refine refnumbers_any (cF2 m d) 4 (tells m d) sa sb 0 sc W (cF2_ok _ _) ?_ (by omega) (Nat.lt_of_le_of_lt hw.1 (by decide)) (by omega) (by have := tells_len m d hm hd; omega) (Lib.hid hI)
    unfold cxF at hl
    rw [F.len_app] at hl
    omega
  by_cases hM : m = [256, 256, 256, 256] <;> by_cases hD : d = [0, 0, 0, 0]
  · have eb : cxB d = false := by unfold cxB; rw [decide_eq_true hD]; rfl
    have em : cxM m = false := by unfold cxM; rw [decide_eq_true hM]; rfl
    have et : tells m d = ([] : List Int) := by unfold tells; rw [if_pos hM, if_pos hD]; try simp
    have H1b : Hid (∀ W, Calls Try.prog 45 #[.agg #[.string ⟨#[]⟩, .int .i64 0], .bool false] W fun e w' => e = .returned (.agg (wrA ([] ++ [(b01 (cxB d), 1)]))) ∧ Below W.heap.size W w') := Lib.hid fun W => by
      have := H1.out W
      rw [eb] at this ⊢
      exact this
    have H2b : Hid (∀ W, Calls Try.prog 45 #[.agg (wrA ([] ++ [(b01 (cxB d), 1)])), .bool false] W fun e w' => e = .returned (.agg (wrA (cF2 m d))) ∧ Below W.heap.size W w') := Lib.hid fun W => by
      have := H2.out W
      rw [em] at this
      unfold cF2
      rw [em]
      exact this
    have H3b := fun W sa sb sc (h2 : Ints W ([] : List Int) sa sb 0) => H3.out W sa sb sc 0 (by rw [et]; rfl) (by rw [et]; exact h2)
    exact refputcx_00 s (bs (F.bys (cxF m d))) (F.fr (cxF m d) : Int) m d ([] ++ [(b01 (cxB d), 1)]) (cF2 m d) w hs hu hm hd (by rw [anyNe_all 256 m hm, decide_eq_true hM]; rfl) (by rw [anyNe_all 0 d hd, decide_eq_true hD]; rfl) (Lib.hid (by rw [← et]; exact hw.2)) H1b H2b (Lib.hid H3b)
  · have eb : cxB d = true := by unfold cxB; rw [decide_eq_false hD]; rfl
    have em : cxM m = false := by unfold cxM; rw [decide_eq_true hM]; rfl
    have et : tells m d = ([] ++ d) := by unfold tells; rw [if_pos hM, if_neg hD]; try simp
    have H1b : Hid (∀ W, Calls Try.prog 45 #[.agg #[.string ⟨#[]⟩, .int .i64 0], .bool true] W fun e w' => e = .returned (.agg (wrA ([] ++ [(b01 (cxB d), 1)]))) ∧ Below W.heap.size W w') := Lib.hid fun W => by
      have := H1.out W
      rw [eb] at this ⊢
      exact this
    have H2b : Hid (∀ W, Calls Try.prog 45 #[.agg (wrA ([] ++ [(b01 (cxB d), 1)])), .bool false] W fun e w' => e = .returned (.agg (wrA (cF2 m d))) ∧ Below W.heap.size W w') := Lib.hid fun W => by
      have := H2.out W
      rw [em] at this
      unfold cF2
      rw [em]
      exact this
    have H3b := fun W sa sb sc (h2 : Ints W ([] ++ d) sa sb 0) => H3.out W sa sb sc 4 (by rw [et]; simp only [List.length_append, List.length_nil]; omega) (by rw [et]; exact h2)
    exact refputcx_01 s (bs (F.bys (cxF m d))) (F.fr (cxF m d) : Int) m d ([] ++ [(b01 (cxB d), 1)]) (cF2 m d) w hs hu hm hd (by rw [anyNe_all 256 m hm, decide_eq_true hM]; rfl) (by rw [anyNe_all 0 d hd, decide_eq_false hD]; rfl) (Lib.hid (by rw [← et]; exact hw.2)) H1b H2b (Lib.hid H3b)
  · have eb : cxB d = false := by unfold cxB; rw [decide_eq_true hD]; rfl
    have em : cxM m = true := by unfold cxM; rw [decide_eq_false hM]; rfl
    have et : tells m d = ([] ++ m) := by unfold tells; rw [if_neg hM, if_pos hD]; try simp
    have H1b : Hid (∀ W, Calls Try.prog 45 #[.agg #[.string ⟨#[]⟩, .int .i64 0], .bool false] W fun e w' => e = .returned (.agg (wrA ([] ++ [(b01 (cxB d), 1)]))) ∧ Below W.heap.size W w') := Lib.hid fun W => by
      have := H1.out W
      rw [eb] at this ⊢
      exact this
    have H2b : Hid (∀ W, Calls Try.prog 45 #[.agg (wrA ([] ++ [(b01 (cxB d), 1)])), .bool true] W fun e w' => e = .returned (.agg (wrA (cF2 m d))) ∧ Below W.heap.size W w') := Lib.hid fun W => by
      have := H2.out W
      rw [em] at this
      unfold cF2
      rw [em]
      exact this
    have H3b := fun W sa sb sc (h2 : Ints W ([] ++ m) sa sb 0) => H3.out W sa sb sc 4 (by rw [et]; simp only [List.length_append, List.length_nil]; omega) (by rw [et]; exact h2)
    exact refputcx_10 s (bs (F.bys (cxF m d))) (F.fr (cxF m d) : Int) m d ([] ++ [(b01 (cxB d), 1)]) (cF2 m d) w hs hu hm hd (by rw [anyNe_all 256 m hm, decide_eq_false hM]; rfl) (by rw [anyNe_all 0 d hd, decide_eq_true hD]; rfl) (Lib.hid (by rw [← et]; exact hw.2)) H1b H2b (Lib.hid H3b)
  · have eb : cxB d = true := by unfold cxB; rw [decide_eq_false hD]; rfl
    have em : cxM m = true := by unfold cxM; rw [decide_eq_false hM]; rfl
    have et : tells m d = ([] ++ m ++ d) := by unfold tells; rw [if_neg hM, if_neg hD]; try simp
    have H1b : Hid (∀ W, Calls Try.prog 45 #[.agg #[.string ⟨#[]⟩, .int .i64 0], .bool true] W fun e w' => e = .returned (.agg (wrA ([] ++ [(b01 (cxB d), 1)]))) ∧ Below W.heap.size W w') := Lib.hid fun W => by
      have := H1.out W
      rw [eb] at this ⊢
      exact this
    have H2b : Hid (∀ W, Calls Try.prog 45 #[.agg (wrA ([] ++ [(b01 (cxB d), 1)])), .bool true] W fun e w' => e = .returned (.agg (wrA (cF2 m d))) ∧ Below W.heap.size W w') := Lib.hid fun W => by
      have := H2.out W
      rw [em] at this
      unfold cF2
      rw [em]
      exact this
    have H3b := fun W sa sb sc (h2 : Ints W ([] ++ m ++ d) sa sb 0) => H3.out W sa sb sc 8 (by rw [et]; simp only [List.length_append, List.length_nil]; omega) (by rw [et]; exact h2)
    exact refputcx_11 s (bs (F.bys (cxF m d))) (F.fr (cxF m d) : Int) m d ([] ++ [(b01 (cxB d), 1)]) (cF2 m d) w hs hu hm hd (by rw [anyNe_all 256 m hm, decide_eq_false hM]; rfl) (by rw [anyNe_all 0 d hd, decide_eq_false hD]; rfl) (Lib.hid (by rw [← et]; exact hw.2)) H1b H2b (Lib.hid H3b)
end Go.Proofs.Ytfaipbdkkkhacaa
