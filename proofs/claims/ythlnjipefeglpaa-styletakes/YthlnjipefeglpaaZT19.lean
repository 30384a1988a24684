import Derived.Test.YthlnjipefeglpaaZT13
import Derived.Test.YthlnjipefeglpaaZT14
import Derived.Test.YthlnjipefeglpaaZT15
import Derived.Test.YthlnjipefeglpaaZT16
import Derived.Test.YthlnjipefeglpaaZT17
import Derived.Test.YthlnjipefeglpaaZT18
import Derived.Test.YthlnjipefeglpaaZT10
import Derived.Test.YthlnjipefeglpaaZT7
import Derived.Deep.RegionHeld3
import Derived.BigRegion
import Derived.Test.YthlnjipefeglpaaZT11
namespace Go.Proofs.Ythlnjipefeglpaa
open Go.RowKit
set_option linter.unusedVariables false
theorem begR_size (s : ByteArray) (a : Int) (hs : s.size ≤ 1000000) : (RS.begR s a).s.size ≤ 1000000 := by
  unfold RS.begR
  split
  · exact hs
  · exact Nat.zero_le _
theorem ne_zero_iff {e : Int} (h : (e != 0) = true) : ¬ e = 0 := by rw [bne_iff_ne] at h; exact h
theorem eq_zero_iff {e : Int} (h : (e != 0) = false) : e = 0 := by
  rw [bne_eq_false_iff_eq] at h; exact h
theorem rtakematrix_any (s : ByteArray) (a : Int) (w : World) (hs : s.size ≤ 1000000) :
    Calls Try.prog 83 #[.agg #[.string s, .int .i64 a]] w fun e w' => e = .returned (.tuple #[.agg (iA (matV (RS.begP s a))), .agg (matS (RS.begP s a)).cells]) ∧ Below w.heap.size w w' := by
  have HG := Lib.hid (fun W => rbegin_any s a W hs)
  have hx : (RS.begP s a).s.size ≤ 1000000 := hs
  have HP0 := fun W => rplain_any (RS.begR s a) 1 W (begR_size s a hs)
  rw [(RS.beg_eq s a 1).1, (RS.beg_eq s a 1).2] at HP0
  have P1 := Lib.hid HP0
  generalize RS.begP s a = x at *
  obtain ⟨e0, e1, e2, e3, e4, e5, hv⟩ := list6 _ (matV_len x)
  have hx1 := RS.go_size x 1 hx
  have hx2 := mx2_size x hx
  have hx3 := RS.go_size (mx2 x) 1 hx2
  have hx4 := mx2_size (mx2 x) hx2
  have S1 := Lib.hid (fun W => several_any (x.go 1) 5 2 W hx1 (by omega))
  have P2 := Lib.hid (fun W => rplain_any (mx2 x) 1 W hx2)
  have S2 := Lib.hid (fun W => several_any ((mx2 x).go 1) 5 2 W hx3 (by omega))
  have S3 : Hid (∀ W, Calls Try.prog 97 #[.agg (mx2 (mx2 x)).cells, .int .i64 5, .int .i64 2] W fun e w' => ∃ g, e = .returned (.tuple #[.slice (some ⟨g, 0, none⟩) 2 2, .agg (mx5 x).cells]) ∧ Blk w' g (iA [((mx2 (mx2 x)).go 5).sg ((mx2 (mx2 x)).pl 5), (((mx2 (mx2 x)).go 5).go ((mx2 (mx2 x)).pl 5)).sg ((mx2 (mx2 x)).pl 5)]) 3 ∧ W.heap.size ≤ g ∧ Below W.heap.size W w') := Lib.hid fun W => several_any (mx2 (mx2 x)) 5 2 W hx4 (by omega)
  have hx5 : (mx5 x).s.size ≤ 1000000 := sevS_size _ 5 2 hx4
  have E0 : Hid (((matS x).e != 0) = true → [e0, e1, e2, e3, e4, e5] = [0, 0, 0, 0, 0, 0]) := Lib.hid fun h => by rw [← hv]; unfold matV; rw [if_neg (ne_zero_iff h)]
  have E1' : ((matS x).e != 0) = false → [e0, e1, e2, e3, e4, e5] = matL x := fun h => by rw [← hv]; unfold matV; rw [if_pos (eq_zero_iff h)]
  rw [hv]
  cases q1 : mB1 x <;> cases q2 : mB1 (mx2 x)
  · have EA : mAD x = [65536, 65536] := if_neg (by rw [q1]; decide)
    have EX : mx2 x = x.go 1 := if_neg (by rw [q1]; decide)
    have EB : mBC (mx2 x) = [0, 0] := if_neg (by rw [q2]; decide)
    have EY : mx2 (mx2 x) = (mx2 x).go 1 := if_neg (by rw [q2]; decide)
    have hl : matL x = [65536, 0, 0, 65536, ((mx2 (mx2 x)).go 5).sg ((mx2 (mx2 x)).pl 5), (((mx2 (mx2 x)).go 5).go ((mx2 (mx2 x)).pl 5)).sg ((mx2 (mx2 x)).pl 5)] := by unfold matL; rw [EA, EB]; rfl
    have HR := Lib.hid (fun W => refmatrix_any (65536) (0) (0) (65536) (((mx2 (mx2 x)).go 5).sg ((mx2 (mx2 x)).pl 5)) ((((mx2 (mx2 x)).go 5).go ((mx2 (mx2 x)).pl 5)).sg ((mx2 (mx2 x)).pl 5)) W)
    have er : matS x = (mx5 x).fin (matOk (65536) (0) (0) (65536) (((mx2 (mx2 x)).go 5).sg ((mx2 (mx2 x)).pl 5)) ((((mx2 (mx2 x)).go 5).go ((mx2 (mx2 x)).pl 5)).sg ((mx2 (mx2 x)).pl 5))) := by unfold matS; rw [hl]; rfl
    have HD : Hid (∀ W, Calls Try.prog 98 #[.agg #[.string (mx5 x).s, .int .i64 (mx5 x).a, .int .i64 (mx5 x).e], .bool (matOk (65536) (0) (0) (65536) (((mx2 (mx2 x)).go 5).sg ((mx2 (mx2 x)).pl 5)) ((((mx2 (mx2 x)).go 5).go ((mx2 (mx2 x)).pl 5)).sg ((mx2 (mx2 x)).pl 5)))] W fun e w' => e = .returned (.agg #[.string (matS x).s, .int .i64 (matS x).a, .int .i64 (matS x).e]) ∧ Below W.heap.size W w') := Lib.hid fun W => by
      rw [er]
      exact rdone_any (mx5 x) _ W hx5
    rw [← EX] at P1
    rw [← EY] at P2
    exact rtakematrix_00 s a _ _ _ _ e0 e1 e2 e3 e4 e5 _ _ _ (mx5 x) (matS x) _ w q1 q2 HG P1 P2 S3 HR HD E0 (Lib.hid fun h => (E1' h).trans hl)
  · have EA : mAD x = [65536, 65536] := if_neg (by rw [q1]; decide)
    have EX : mx2 x = x.go 1 := if_neg (by rw [q1]; decide)
    have EB : mBC (mx2 x) = ((mx2 x).go 1).sevL 5 2 := if_pos q2
    have EY : mx2 (mx2 x) = ((mx2 x).go 1).sevS 5 2 := if_pos q2
    have hl : matL x = [65536, (((mx2 x).go 1).go 5).sg (((mx2 x).go 1).pl 5), ((((mx2 x).go 1).go 5).go (((mx2 x).go 1).pl 5)).sg (((mx2 x).go 1).pl 5), 65536, ((mx2 (mx2 x)).go 5).sg ((mx2 (mx2 x)).pl 5), (((mx2 (mx2 x)).go 5).go ((mx2 (mx2 x)).pl 5)).sg ((mx2 (mx2 x)).pl 5)] := by unfold matL; rw [EA, EB]; rfl
    have HR := Lib.hid (fun W => refmatrix_any (65536) ((((mx2 x).go 1).go 5).sg (((mx2 x).go 1).pl 5)) (((((mx2 x).go 1).go 5).go (((mx2 x).go 1).pl 5)).sg (((mx2 x).go 1).pl 5)) (65536) (((mx2 (mx2 x)).go 5).sg ((mx2 (mx2 x)).pl 5)) ((((mx2 (mx2 x)).go 5).go ((mx2 (mx2 x)).pl 5)).sg ((mx2 (mx2 x)).pl 5)) W)
    have er : matS x = (mx5 x).fin (matOk (65536) ((((mx2 x).go 1).go 5).sg (((mx2 x).go 1).pl 5)) (((((mx2 x).go 1).go 5).go (((mx2 x).go 1).pl 5)).sg (((mx2 x).go 1).pl 5)) (65536) (((mx2 (mx2 x)).go 5).sg ((mx2 (mx2 x)).pl 5)) ((((mx2 (mx2 x)).go 5).go ((mx2 (mx2 x)).pl 5)).sg ((mx2 (mx2 x)).pl 5))) := by unfold matS; rw [hl]; rfl
    have HD : Hid (∀ W, Calls Try.prog 98 #[.agg #[.string (mx5 x).s, .int .i64 (mx5 x).a, .int .i64 (mx5 x).e], .bool (matOk (65536) ((((mx2 x).go 1).go 5).sg (((mx2 x).go 1).pl 5)) (((((mx2 x).go 1).go 5).go (((mx2 x).go 1).pl 5)).sg (((mx2 x).go 1).pl 5)) (65536) (((mx2 (mx2 x)).go 5).sg ((mx2 (mx2 x)).pl 5)) ((((mx2 (mx2 x)).go 5).go ((mx2 (mx2 x)).pl 5)).sg ((mx2 (mx2 x)).pl 5)))] W fun e w' => e = .returned (.agg #[.string (matS x).s, .int .i64 (matS x).a, .int .i64 (matS x).e]) ∧ Below W.heap.size W w') := Lib.hid fun W => by
      rw [er]
      exact rdone_any (mx5 x) _ W hx5
    rw [← EX] at P1
    rw [← EY] at S2
    exact rtakematrix_01 s a _ _ _ _ _ _ e0 e1 e2 e3 e4 e5 _ _ _ _ (mx5 x) (matS x) _ w q1 q2 HG P1 P2 S2 S3 HR HD E0 (Lib.hid fun h => (E1' h).trans hl)
  · have EA : mAD x = (x.go 1).sevL 5 2 := if_pos q1
    have EX : mx2 x = (x.go 1).sevS 5 2 := if_pos q1
    have EB : mBC (mx2 x) = [0, 0] := if_neg (by rw [q2]; decide)
    have EY : mx2 (mx2 x) = (mx2 x).go 1 := if_neg (by rw [q2]; decide)
    have hl : matL x = [((x.go 1).go 5).sg ((x.go 1).pl 5), 0, 0, (((x.go 1).go 5).go ((x.go 1).pl 5)).sg ((x.go 1).pl 5), ((mx2 (mx2 x)).go 5).sg ((mx2 (mx2 x)).pl 5), (((mx2 (mx2 x)).go 5).go ((mx2 (mx2 x)).pl 5)).sg ((mx2 (mx2 x)).pl 5)] := by unfold matL; rw [EA, EB]; rfl
    have HR := Lib.hid (fun W => refmatrix_any (((x.go 1).go 5).sg ((x.go 1).pl 5)) (0) (0) ((((x.go 1).go 5).go ((x.go 1).pl 5)).sg ((x.go 1).pl 5)) (((mx2 (mx2 x)).go 5).sg ((mx2 (mx2 x)).pl 5)) ((((mx2 (mx2 x)).go 5).go ((mx2 (mx2 x)).pl 5)).sg ((mx2 (mx2 x)).pl 5)) W)
    have er : matS x = (mx5 x).fin (matOk (((x.go 1).go 5).sg ((x.go 1).pl 5)) (0) (0) ((((x.go 1).go 5).go ((x.go 1).pl 5)).sg ((x.go 1).pl 5)) (((mx2 (mx2 x)).go 5).sg ((mx2 (mx2 x)).pl 5)) ((((mx2 (mx2 x)).go 5).go ((mx2 (mx2 x)).pl 5)).sg ((mx2 (mx2 x)).pl 5))) := by unfold matS; rw [hl]; rfl
    have HD : Hid (∀ W, Calls Try.prog 98 #[.agg #[.string (mx5 x).s, .int .i64 (mx5 x).a, .int .i64 (mx5 x).e], .bool (matOk (((x.go 1).go 5).sg ((x.go 1).pl 5)) (0) (0) ((((x.go 1).go 5).go ((x.go 1).pl 5)).sg ((x.go 1).pl 5)) (((mx2 (mx2 x)).go 5).sg ((mx2 (mx2 x)).pl 5)) ((((mx2 (mx2 x)).go 5).go ((mx2 (mx2 x)).pl 5)).sg ((mx2 (mx2 x)).pl 5)))] W fun e w' => e = .returned (.agg #[.string (matS x).s, .int .i64 (matS x).a, .int .i64 (matS x).e]) ∧ Below W.heap.size W w') := Lib.hid fun W => by
      rw [er]
      exact rdone_any (mx5 x) _ W hx5
    rw [← EX] at S1
    rw [← EY] at P2
    exact rtakematrix_10 s a _ _ _ _ _ _ e0 e1 e2 e3 e4 e5 _ _ _ _ (mx5 x) (matS x) _ w q1 q2 HG P1 S1 P2 S3 HR HD E0 (Lib.hid fun h => (E1' h).trans hl)
  · have EA : mAD x = (x.go 1).sevL 5 2 := if_pos q1
    have EX : mx2 x = (x.go 1).sevS 5 2 := if_pos q1
    have EB : mBC (mx2 x) = ((mx2 x).go 1).sevL 5 2 := if_pos q2
    have EY : mx2 (mx2 x) = ((mx2 x).go 1).sevS 5 2 := if_pos q2
    have hl : matL x = [((x.go 1).go 5).sg ((x.go 1).pl 5), (((mx2 x).go 1).go 5).sg (((mx2 x).go 1).pl 5), ((((mx2 x).go 1).go 5).go (((mx2 x).go 1).pl 5)).sg (((mx2 x).go 1).pl 5), (((x.go 1).go 5).go ((x.go 1).pl 5)).sg ((x.go 1).pl 5), ((mx2 (mx2 x)).go 5).sg ((mx2 (mx2 x)).pl 5), (((mx2 (mx2 x)).go 5).go ((mx2 (mx2 x)).pl 5)).sg ((mx2 (mx2 x)).pl 5)] := by unfold matL; rw [EA, EB]; rfl
    have HR := Lib.hid (fun W => refmatrix_any (((x.go 1).go 5).sg ((x.go 1).pl 5)) ((((mx2 x).go 1).go 5).sg (((mx2 x).go 1).pl 5)) (((((mx2 x).go 1).go 5).go (((mx2 x).go 1).pl 5)).sg (((mx2 x).go 1).pl 5)) ((((x.go 1).go 5).go ((x.go 1).pl 5)).sg ((x.go 1).pl 5)) (((mx2 (mx2 x)).go 5).sg ((mx2 (mx2 x)).pl 5)) ((((mx2 (mx2 x)).go 5).go ((mx2 (mx2 x)).pl 5)).sg ((mx2 (mx2 x)).pl 5)) W)
    have er : matS x = (mx5 x).fin (matOk (((x.go 1).go 5).sg ((x.go 1).pl 5)) ((((mx2 x).go 1).go 5).sg (((mx2 x).go 1).pl 5)) (((((mx2 x).go 1).go 5).go (((mx2 x).go 1).pl 5)).sg (((mx2 x).go 1).pl 5)) ((((x.go 1).go 5).go ((x.go 1).pl 5)).sg ((x.go 1).pl 5)) (((mx2 (mx2 x)).go 5).sg ((mx2 (mx2 x)).pl 5)) ((((mx2 (mx2 x)).go 5).go ((mx2 (mx2 x)).pl 5)).sg ((mx2 (mx2 x)).pl 5))) := by unfold matS; rw [hl]; rfl
    have HD : Hid (∀ W, Calls Try.prog 98 #[.agg #[.string (mx5 x).s, .int .i64 (mx5 x).a, .int .i64 (mx5 x).e], .bool (matOk (((x.go 1).go 5).sg ((x.go 1).pl 5)) ((((mx2 x).go 1).go 5).sg (((mx2 x).go 1).pl 5)) (((((mx2 x).go 1).go 5).go (((mx2 x).go 1).pl 5)).sg (((mx2 x).go 1).pl 5)) ((((x.go 1).go 5).go ((x.go 1).pl 5)).sg ((x.go 1).pl 5)) (((mx2 (mx2 x)).go 5).sg ((mx2 (mx2 x)).pl 5)) ((((mx2 (mx2 x)).go 5).go ((mx2 (mx2 x)).pl 5)).sg ((mx2 (mx2 x)).pl 5)))] W fun e w' => e = .returned (.agg #[.string (matS x).s, .int .i64 (matS x).a, .int .i64 (matS x).e]) ∧ Below W.heap.size W w') := Lib.hid fun W => by
      rw [er]
      exact rdone_any (mx5 x) _ W hx5
    rw [← EX] at S1
    rw [← EY] at S2
    exact rtakematrix_11 s a _ _ _ _ _ _ _ _ e0 e1 e2 e3 e4 e5 _ _ _ _ _ (mx5 x) (matS x) _ w q1 q2 HG P1 S1 P2 S2 S3 HR HD E0 (Lib.hid fun h => (E1' h).trans hl)
theorem bytes4 (t : ByteArray) (h : t.size = 4) : ∃ c0 c1 c2 c3 : UInt8, t = ⟨#[c0, c1, c2, c3]⟩ := by
  obtain ⟨d⟩ := t
  obtain ⟨l⟩ := d
  match l, h with
  | [c0, c1, c2, c3], _ => exact ⟨c0, c1, c2, c3, rfl⟩
theorem by4_size (s : ByteArray) (a : Int) (h : byE s.size a 4 = 0) : (byB s a 4).size = 4 := by
  unfold byB
  rw [if_pos h]
  unfold byE at h
  split at h
  · split at h
    · cases h
    · rw [ByteArray.size_extract]
      have : (4 : Int).toNat = 4 := rfl
      omega
  · cases h
theorem by_err (s : ByteArray) (a : Int) (h : ¬ byE s.size a 4 = 0) : byS s a 4 = ⟨#[]⟩ ∧ byA s a 4 = 0 := ⟨if_neg h, if_neg h⟩
theorem takergba_any (s : ByteArray) (a : Int) (w : World) (hs : s.size ≤ 1000000) :
    Calls Try.prog 58 #[.agg #[.string s, .int .i64 a]] w fun e w' => e = .returned (.tuple #[.agg (iA (rgV s a)), .agg #[.string (byS s a 4), .int .i64 (byA s a 4)], .int .i64 (byE s.size a 4)]) ∧ Below w.heap.size w w' := by
  have HP0 := fun W => bytes_any s a 4 W (by omega)
  unfold byR at HP0
  by_cases h : byE s.size a 4 = 0
  · obtain ⟨c0, c1, c2, c3, ht⟩ := bytes4 _ (by4_size s a h)
    have hv : rgV s a = [(c0.toNat : Int), (c1.toNat : Int), (c2.toNat : Int), (c3.toNat : Int)] := by unfold rgV; rw [if_pos h, ht]; rfl
    rw [ht, h] at HP0
    rw [hv, h]
    have b := fun c : UInt8 => (show 0 ≤ (c.toNat : Int) ∧ (c.toNat : Int) ≤ 255 by have := c.toNat_lt; omega)
    exact takergba_ok s _ _ a _ _ _ _ _ w (b c0) (b c1) (b c2) (b c3) (fun W => by kernel_rfl) (fun W => by kernel_rfl) (fun W => by kernel_rfl) (fun W => by kernel_rfl) (Lib.hid HP0)
  · have hv : rgV s a = [0, 0, 0, 0] := if_neg h
    rw [hv, (by_err s a h).1, (by_err s a h).2]
    exact takergba_err s _ _ a _ _ w (by rw [bne_iff_ne]; exact h) (Lib.hid HP0)
theorem rtakergba_any (s : ByteArray) (a : Int) (w : World) (hs : s.size ≤ 1000000) :
    Calls Try.prog 64 #[.agg #[.string s, .int .i64 a]] w fun e w' => e = .returned (.tuple #[.agg (iA (rgV s a)), .agg #[.string (byS s a 4), .int .i64 (byA s a 4), .int .i64 (byE s.size a 4)]]) ∧ Below w.heap.size w w' := by
  have HP0 := fun W => refbytes_any s a 4 W (by omega)
  unfold byR at HP0
  by_cases h : byE s.size a 4 = 0
  · obtain ⟨c0, c1, c2, c3, ht⟩ := bytes4 _ (by4_size s a h)
    have hv : rgV s a = [(c0.toNat : Int), (c1.toNat : Int), (c2.toNat : Int), (c3.toNat : Int)] := by unfold rgV; rw [if_pos h, ht]; rfl
    rw [ht, h] at HP0
    rw [hv, h]
    have b := fun c : UInt8 => (show 0 ≤ (c.toNat : Int) ∧ (c.toNat : Int) ≤ 255 by have := c.toNat_lt; omega)
    exact rtakergba_ok s _ _ a _ _ _ _ _ w (b c0) (b c1) (b c2) (b c3) (fun W => by kernel_rfl) (fun W => by kernel_rfl) (fun W => by kernel_rfl) (fun W => by kernel_rfl) (Lib.hid HP0)
  · have hv : rgV s a = [0, 0, 0, 0] := if_neg h
    rw [hv, (by_err s a h).1, (by_err s a h).2]
    exact rtakergba_err s _ _ a _ _ w (by rw [bne_iff_ne]; exact h) (Lib.hid HP0)
end Go.Proofs.Ythlnjipefeglpaa
namespace Go.Proofs.Ythlnjipefeglpaa
open Go.RowKit
set_option linter.unusedVariables false
theorem wd_small (v : Int) (n : Nat) (hn : n ≤ 31) (h0 : -(B.P2 n : Int) ≤ v) (h1 : v < B.P2 n) : wd v ≤ n + 1 := by
  have hp : B.P2 n ≤ 2147483648 := B.P2_le (b := 31) hn
  by_cases h : v = 0
  · subst h; unfold wd; simp
  · exact (wd_iff v n h (by omega) (by omega) (by omega)).2 ⟨h0, h1⟩
theorem nr_wd {m v : Int} {n : Nat} (h : nr m v = true) (hn : n ≤ 31) (hm : m < B.P2 n) : wd v ≤ n + 1 := by
  have := (nr_iff m v).1 h
  exact wd_small v n hn (by omega) (by omega)
def rectF (l r t b : Int) : List (Nat × Nat) := F.nums 5 [l, r, t, b]
end Go.Proofs.Ythlnjipefeglpaa
namespace Go.Proofs.Ythlnjipefeglpaa
open Go.RowKit
set_option linter.unusedVariables false
def tells (m d : List Int) : List Int := (if m = [256, 256, 256, 256] then [] else m) ++ (if d = [0, 0, 0, 0] then [] else d)
def cxB (d : List Int) : Bool := !decide (d = [0, 0, 0, 0])
def cxM (m : List Int) : Bool := !decide (m = [256, 256, 256, 256])
def cF2 (m d : List Int) : List (Nat × Nat) := [] ++ [(b01 (cxB d), 1)] ++ [(b01 (cxM m), 1)]
def cxF (m d : List Int) : List (Nat × Nat) := cF2 m d ++ F.nums 4 (tells m d)
end Go.Proofs.Ythlnjipefeglpaa
namespace Go.Proofs.Ythlnjipefeglpaa
open Go.RowKit
set_option linter.unusedVariables false
def anyNe (c : Int) (l : List Int) : Bool := l.any (· != c)
def NeRel (m d : List Int) (x y i : Value) : Prop := ∃ k : Nat, k ≤ 4 ∧ i = .int .i64 k ∧ x = .bool (anyNe 0 (d.take k)) ∧ y = .bool (anyNe 256 (m.take k))
end Go.Proofs.Ythlnjipefeglpaa
namespace Go.Proofs.Ythlnjipefeglpaa
open Go.RowKit
set_option linter.unusedVariables false
set_option maxRecDepth 100000
end Go.Proofs.Ythlnjipefeglpaa
namespace Go.Proofs.Ythlnjipefeglpaa
open Go.RowKit
set_option linter.unusedVariables false
set_option maxRecDepth 100000
end Go.Proofs.Ythlnjipefeglpaa
namespace Go.Proofs.Ythlnjipefeglpaa
open Go.RowKit
set_option linter.unusedVariables false
set_option maxRecDepth 100000
end Go.Proofs.Ythlnjipefeglpaa
namespace Go.Proofs.Ythlnjipefeglpaa
open Go.RowKit
set_option linter.unusedVariables false
set_option maxRecDepth 100000
end Go.Proofs.Ythlnjipefeglpaa
namespace Go.Proofs.Ythlnjipefeglpaa
open Go.RowKit
set_option linter.unusedVariables false
theorem size27 : (Try.prog.info? 25).map (·.size) = some 6 := by kernel_rfl
theorem zero27 (w : World) : (zeroValue 25).run Try.prog w = .ok (.agg #[.int .i64 0, .int .i64 0, .int .i64 0, .int .i64 0, .int .i64 0, .int .i64 0]) w := Try.zeroValue25 w
theorem same_any (w : World) : Calls Try.prog 66 #[] w fun e w' => e = .returned (.agg #[.int .i64 65536, .int .i64 0, .int .i64 0, .int .i64 65536, .int .i64 0, .int .i64 0]) ∧ Below w.heap.size w w' := by
  go_enter Try.func66, Try.ntmps66
  go_wp2_with (first
    | (refine wl_alloc 25 _ zero27 rfl rfl ?_; intro W1 br Br_1 l1 k1; have gr : w.heap.size ≤ br := l1; have H1 := k1; clear l1 k1)
    | (refine wl_store 25 6 size27 _ _ rfl rfl _ rfl #[.int .i64 65536, .int .i64 0, .int .i64 0, .int .i64 65536, .int .i64 0, .int .i64 0] rfl _ _ Br_1 rfl rfl (by kernel_rfl) ?_; intro W2 Br_2 T2; have H2 := T2.below H1 gr; clear T2 Br_1 H1))
  exact post_cell Try.underlying25 rfl size27 Try.results66 Br_2 rfl rfl rfl ⟨rfl, H2⟩
theorem mat_wd {a b c d x y : Int} (h : matOk a b c d x y = true) : mxW [a, d] ≤ 24 ∧ mxW [b, c] ≤ 24 ∧ mxW [x, y] ≤ 22 ∧ (I64 a ∧ I64 b ∧ I64 c ∧ I64 d ∧ I64 x ∧ I64 y) := by
  unfold matOk at h
  simp only [List.all_cons, List.all_nil, Bool.and_true, Bool.and_eq_true] at h
  obtain ⟨⟨ha, hb, hc, hd⟩, hx, hy⟩ := h
  have e (v : Int) (hv : nr 4194304 v = true) : wd v ≤ 24 ∧ I64 v := by
    refine ⟨nr_wd (n := 23) hv (by omega) (by decide), ?_⟩
    have := (nr_iff _ _).1 hv
    unfold I64
    omega
  have e2 (v : Int) (hv : nr 1048576 v = true) : wd v ≤ 22 ∧ I64 v := by
    refine ⟨nr_wd (n := 21) hv (by omega) (by decide), ?_⟩
    have := (nr_iff _ _).1 hv
    unfold I64
    omega
  refine ⟨F.mxW_le ?_, F.mxW_le ?_, F.mxW_le ?_, (e a ha).2, (e b hb).2, (e c hc).2, (e d hd).2, (e2 x hx).2, (e2 y hy).2⟩
  · intro v hv
    simp only [List.mem_cons, List.not_mem_nil, or_false] at hv
    rcases hv with rfl | rfl
    · exact (e _ ha).1
    · exact (e _ hd).1
  · intro v hv
    simp only [List.mem_cons, List.not_mem_nil, or_false] at hv
    rcases hv with rfl | rfl
    · exact (e _ hb).1
    · exact (e _ hc).1
  · intro v hv
    simp only [List.mem_cons, List.not_mem_nil, or_false] at hv
    rcases hv with rfl | rfl
    · exact (e2 _ hx).1
    · exact (e2 _ hy).1
end Go.Proofs.Ythlnjipefeglpaa
