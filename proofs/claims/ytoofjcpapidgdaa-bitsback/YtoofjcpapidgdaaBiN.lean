import Derived.Test.YtoofjcpapidgdaaBiM
/- Plain facts: what is read where a field was written. -/
namespace Go.Proofs.Ytoofjcpapidgdaa
open Go.RowKit
set_option linter.unusedVariables false
set_option linter.unusedSectionVars false

section
variable (ps : List Fd) (ho : ∀ p ∈ ps, p.ok = true ∧ p.fit) (k : Nat) (hk : k < ps.length)
include ho hk
theorem read_step : wrF (ps.take (k + 1)) = ps[k].put (wrF (ps.take k)) := by
  rw [List.take_succ_eq_append_getElem hk, wr_snoc]
theorem read_bits (v n : Nat) (e : wrF (ps.take (k + 1)) = (B.putL (wrF (ps.take k)).1 (wrF (ps.take k)).2 v n, B.putF (wrF (ps.take k)).1.length (wrF (ps.take k)).2 n)) (hv : v < B.P2 n) :
    pos (wrF (ps.take (k + 1))) = pos (wrF (ps.take k)) + n ∧ pos (wrF (ps.take k)) + n ≤ 8 * (wrF ps).1.length ∧ B.fld (wrF ps).1 (pos (wrF (ps.take k))) n = v := by
  obtain ⟨s1, _⟩ := wr_facts ps ho k (by omega)
  have hA := wr_end ps ho (k + 1) (by omega)
  have hp : pos (wrF (ps.take (k + 1))) = pos (wrF (ps.take k)) + n := by
    rw [e]
    unfold pos
    have := B.putN_eq (wrF (ps.take k)).1.length (wrF (ps.take k)).2 n
    simp only [B.putL_len]
    omega
  refine ⟨hp, by have := hA.2.1; omega, ?_⟩
  rw [B.agree_fld hA _ _ (by omega), e]
  exact B.putL_fld _ _ _ _ s1.2.1 hv
theorem read0 (h0 : ps[k].kind = 0) : plR (bs (wrF ps).1) (pos (wrF (ps.take k)) : Nat) ps[k].n = .tuple #[.int .i64 ps[k].v, .agg #[.string (bs (wrF ps).1), .int .i64 ((pos (wrF (ps.take (k + 1))) : Nat) : Int)], .int .i64 0] := by
  have hm := (ho ps[k] (List.getElem_mem _)).1
  unfold Fd.ok at hm
  rw [if_pos h0] at hm
  obtain ⟨n0, n1, v0, hv⟩ := ppOk_iff hm
  have e := read_step ps ho k hk
  unfold Fd.put at e
  rw [if_pos h0] at e
  obtain ⟨r1, r2, r3⟩ := read_bits ps ho k hk _ _ e hv
  obtain ⟨N, hN⟩ := Int.eq_ofNat_of_zero_le n0
  rw [hN] at r1 r2 r3 n1 ⊢
  rw [Int.toNat_natCast] at r1 r2 r3
  rw [plR_ok (by omega) (by rw [bs_size]; omega), bs_data, r3, r1, Int.toNat_of_nonneg v0]
theorem read1 (h1 : ps[k].kind = 1) : sgR (bs (wrF ps).1) (pos (wrF (ps.take k)) : Nat) ps[k].n = .tuple #[.int .i64 ps[k].v, .agg #[.string (bs (wrF ps).1), .int .i64 ((pos (wrF (ps.take (k + 1))) : Nat) : Int)], .int .i64 0] := by
  obtain ⟨hm, hfit⟩ := ho ps[k] (List.getElem_mem _)
  unfold Fd.ok at hm
  rw [if_neg (by omega), if_pos h1] at hm
  obtain ⟨n0, n1, hw⟩ := psOk_iff hm
  have hu := sgU_lt ps[k].v ps[k].n.toNat hfit.1 hfit.2 (by omega) (by omega)
  have e := read_step ps ho k hk
  unfold Fd.put at e
  rw [if_neg (by omega), if_pos h1] at e
  obtain ⟨r1, r2, r3⟩ := read_bits ps ho k hk _ _ e hu.1
  obtain ⟨N, hN⟩ := Int.eq_ofNat_of_zero_le n0
  rw [hN] at r1 r2 r3 n1 hu hw ⊢
  rw [Int.toNat_natCast] at r1 r2 r3 hu
  have hE : plE (bs (wrF ps).1).size (pos (wrF (ps.take k)) : Nat) (N : Nat) = 0 := plE_ok (by omega) (by rw [bs_size]; omega)
  have hV : plV (bs (wrF ps).1) (pos (wrF (ps.take k)) : Nat) (N : Nat) = (sgU ps[k].v N : Int) := by
    unfold plV
    rw [if_pos hE, Int.toNat_natCast, Int.toNat_natCast, bs_data, r3]
  have hS : sgV (bs (wrF ps).1) (pos (wrF (ps.take k)) : Nat) (N : Nat) = ps[k].v := by
    unfold sgV
    rw [hV, Int.toNat_natCast, Int.toNat_natCast]
    have h2 := hu.2
    have h3 := hu.1
    unfold sgU at *
    by_cases hneg : ps[k].v < 0
    · have := h2.1 hneg
      simp only [if_pos hneg] at *
      have hN0 : 0 < N := by
        apply Nat.pos_of_ne_zero
        intro h
        subst h
        have hz : wd ps[k].v = 0 := by omega
        have := wd_pos ps[k].v (by omega)
        omega
      rw [if_pos (by omega)]
      omega
    · have := h2.2 (by omega)
      simp only [if_neg hneg] at *
      rw [if_neg (by omega)]
      omega
  unfold sgR
  rw [hS, hE]
  unfold plS plA
  rw [if_pos hE, if_pos hE, r1]
  congr 4
theorem read2 (h2 : ps[k].kind = 2) : liR (bs (wrF ps).1) (pos (wrF (ps.take k)) : Nat) ps[k].n = .tuple #[.int .i64 ps[k].v, .agg #[.string (bs (wrF ps).1), .int .i64 ((pos (wrF (ps.take (k + 1))) : Nat) : Int)], .int .i64 0] := by
  have hm := (ho ps[k] (List.getElem_mem _)).1
  unfold Fd.ok at hm
  rw [if_neg (by omega), if_neg (by omega), if_pos h2] at hm
  obtain ⟨n0, n1, v0, hv⟩ := ltOk_iff hm
  have e := read_step ps ho k hk
  unfold Fd.put at e
  rw [if_neg (by omega), if_neg (by omega), if_pos h2] at e
  obtain ⟨s1, _⟩ := wr_facts ps ho k (by omega)
  have hA := wr_end ps ho (k + 1) (by omega)
  have hlen : (wrF (ps.take (k + 1))).1.length = (wrF (ps.take k)).1.length + ps[k].n.toNat := by rw [e]; simp [B.le_len]
  have hpos : pos (wrF (ps.take (k + 1))) = 8 * (wrF (ps.take (k + 1))).1.length := by rw [e]; rfl
  rw [hpos] at hA
  have ht := B.agree_take hA
  have hF := hA.2.1
  have hx := s1.1
  have hx2 := s1.2.1
  have hal : ((pos (wrF (ps.take k)) : Nat) + 7 : Int) / 8 = ((wrF (ps.take k)).1.length : Int) := by unfold pos; omega
  have hE : byE (bs (wrF ps).1).size (pos (wrF (ps.take k)) : Nat) ps[k].n = 0 := by
    unfold byE
    rw [bs_size, if_pos (by unfold pos; omega), hal, if_neg (by omega)]
  have hB : byB (bs (wrF ps).1) (pos (wrF (ps.take k)) : Nat) ps[k].n = bs (B.le ps[k].n.toNat ps[k].v.toNat) := by
    unfold byB
    rw [if_pos hE, hal, Int.toNat_natCast]
    apply ByteArray.ext
    apply Array.toList_inj.1
    rw [ByteArray.data_extract]
    have hd : ((wrF ps).1.take ((wrF (ps.take k)).1.length + ps[k].n.toNat)).drop (wrF (ps.take k)).1.length = B.le ps[k].n.toNat ps[k].v.toNat := by
      rw [← hlen, ht, e]
      simp
    show ((bs (wrF ps).1).data.extract _ _).toList = B.le ps[k].n.toNat ps[k].v.toNat
    rw [← hd]
    simp [bs, List.drop_take]
  unfold liR
  rw [if_pos ⟨n0, n1⟩, hB, hE]
  unfold byS byA
  rw [if_pos hE, if_pos hE, bs_data, B.lv_le _ _ hv, hal, Int.toNat_of_nonneg v0, hpos, hlen, show 8 * (((wrF (ps.take k)).1.length : Int) + ps[k].n) = ((8 * ((wrF (ps.take k)).1.length + ps[k].n.toNat) : Nat) : Int) by omega]
theorem read3 (h3 : ps[k].kind = 3) : alA (bs (wrF ps).1).size (pos (wrF (ps.take k)) : Nat) = ((pos (wrF (ps.take (k + 1))) : Nat) : Int) := by
  have e := read_step ps ho k hk
  unfold Fd.put at e
  rw [if_neg (by omega), if_neg (by omega), if_neg (by omega)] at e
  obtain ⟨s1, _⟩ := wr_facts ps ho k (by omega)
  have hA := wr_end ps ho k (by omega)
  have hF := hA.2.1
  have hx := s1.1
  have hx2 := s1.2.1
  unfold alA
  rw [bs_size, if_pos (by omega), e]
  unfold pos
  simp only
  omega
end
theorem read_all (ps : List Fd) (ho : ∀ p ∈ ps, p.ok = true ∧ p.fit) : alA (bs (wrF ps).1).size (pos (wrF ps) : Nat) = 8 * ((wrF ps).1.length : Int) := by
  obtain ⟨s1, _⟩ := wr_facts ps ho ps.length (Nat.le_refl _)
  rw [List.take_length] at s1
  have hx := s1.1
  have hx2 := s1.2.1
  unfold alA pos
  rw [bs_size, if_pos (by omega)]
  omega
end Go.Proofs.Ytoofjcpapidgdaa
