import Derived.Test.YtoofjcpapidgdaaBiN
import Derived.Test.YtoofjcpapidgdaaBih
import Derived.Test.YtoofjcpapidgdaaU1
import Derived.Deep.AppendLies
import Derived.Laws.OwnMore
/- Layer 2: BitsBack, the pieces. -/
namespace Go.Proofs.Ytoofjcpapidgdaa
open Go.RowKit
set_option linter.unusedVariables false

theorem field_info : (Try.prog.info? 57).map (fun i => (i.zero, i.size, i.bytes)) = some (some (.agg #[.int .i64 0, .int .i64 0, .int .i64 0]), 3, 24) := by kernel_rfl
theorem own_below {w w' : World} {base : Nat} {e : TypeId} {size : Nat} {v : Value} {n : Nat} {xs : List Value} (h : w.ownsRow base e size v n xs) (hb : Below w.heap.size w w') : w'.ownsRow base e size v n xs := by
  obtain ⟨h1, h2⟩ := h
  refine ⟨h1, ?_⟩
  rcases h2 with h2 | ⟨g, cap, cur, e1, e2, e3, e4⟩
  · exact Or.inl h2
  · have hg : g < w.heap.size := by
      rw [Array.getElem?_eq_some_iff] at e3
      exact e3.1
    exact Or.inr ⟨g, cap, cur, e1, e2, (hb.block g hg).trans e3, e4⟩
theorem Box.grown {w w' : World} {b : Nat} {x y : Value} {row : Option Nat} (h : Box w b x y) (hg : w.grownBy w' row) (hne : some b ≠ row) : Box w' b x y := by
  obtain ⟨h0, h1, h2, h3, h4⟩ := h
  exact ⟨(hg.cell_far ⟨b, 0, none⟩ h4 hne).trans h0, (hg.cell_far ⟨b, 1, none⟩ h4 hne).trans h1, (hg.frozen_far ⟨b, 0, none⟩ h4 hne).trans h2, (hg.frozen_far ⟨b, 1, none⟩ h4 hne).trans h3, Nat.lt_of_lt_of_le h4 hg.size⟩
theorem own_form {w : World} {base : Nat} {e : TypeId} {v : Value} {n : Nat} {xs : List Value} (h : w.ownsRow base e 3 v n xs) :
    ∃ a c g, v = .slice a n c ∧ (n = 0 ∨ a = some ⟨g, 0, none⟩ ∧ g < w.heap.size ∧ base ≤ g ∧ ∀ j, j < n * 3 → w.cell? ⟨g, j, none⟩ = xs[j]?) := by
  rcases h.2 with ⟨h1, h2⟩ | ⟨g, cap, cur, e1, e2, e3, _⟩
  · subst h2; exact ⟨none, 0, 0, h1, Or.inl rfl⟩
  · subst e1
    have hg : g < w.heap.size := by
      rw [Array.getElem?_eq_some_iff] at e3
      exact e3.1
    exact ⟨_, cap, g, rfl, Or.inr ⟨rfl, hg, e2, fun j hj => h.cellAt j hj⟩⟩
def Fd.cells (p : Fd) : List Value := [.int .i64 p.k, .int .i64 p.v, .int .i64 p.n]
def cellsF (ps : List Fd) : List Value := ps.flatMap Fd.cells
theorem cellsF_snoc (ps : List Fd) (p : Fd) : cellsF (ps ++ [p]) = cellsF ps ++ p.cells := by simp [cellsF]
theorem cellsF_len (ps : List Fd) : (cellsF ps).length = ps.length * 3 := by
  induction ps with
  | nil => rfl
  | cons p ps ih => simp [cellsF, Fd.cells] at *; omega
theorem cellsF_get (ps : List Fd) (k : Nat) (hk : k < ps.length) : (cellsF ps)[k * 3]? = some (.int .i64 ps[k].k) ∧ (cellsF ps)[k * 3 + 1]? = some (.int .i64 ps[k].v) ∧ (cellsF ps)[k * 3 + 2]? = some (.int .i64 ps[k].n) := by
  induction ps generalizing k with
  | nil => simp at hk
  | cons p ps ih =>
    have e : cellsF (p :: ps) = .int .i64 p.k :: .int .i64 p.v :: .int .i64 p.n :: cellsF ps := by simp [cellsF, Fd.cells]
    rw [e]
    cases k with
    | zero => exact ⟨rfl, rfl, rfl⟩
    | succ k =>
      have := ih k (by simpa using hk)
      rw [show (k + 1) * 3 = k * 3 + 1 + 1 + 1 by omega, show k * 3 + 1 + 1 + 1 + 1 = k * 3 + 1 + 1 + 1 + 1 from rfl]
      simpa using this
/-- one field behind a writer: the program's answer -/
def PutRel1 (p : Fd) (x : List UInt8 × Nat) (s2 : ByteArray) (f2 E : Int) : Prop := (E == 0) = true ∧ p.ok = true ∧ s2 = bs (p.put x).1 ∧ f2 = ((p.put x).2 : Nat) ∨ (E == 0) = false ∧ p.ok = false
theorem put_k0 (p : Fd) (x : List UInt8 × Nat) (hs : B.Snd x.1 x.2) (hz : x.1.length ≤ 1000000) (h0 : p.kind = 0) :
    ∃ s2 f2 E, PutRel1 p x s2 f2 E ∧ ∀ w, Calls Try.prog 21 #[.agg #[.string (bs x.1), .int .i64 (x.2 : Nat)], .int .i64 p.v, .int .i64 p.n] w fun e w' => e = .returned (.tuple #[.agg #[.string s2, .int .i64 f2], .int .i64 E]) ∧ Below w.heap.size w w' := by
  have hc := fun w => putplain_any (bs x.1) (x.2 : Nat) p.v p.n w (by rw [bs_size]; omega)
  have ek : p.ok = ppOk p.v p.n := by unfold Fd.ok; rw [if_pos h0]
  have ep : p.put x = (B.putL x.1 x.2 p.v.toNat p.n.toNat, B.putF x.1.length x.2 p.n.toNat) := by unfold Fd.put; rw [if_pos h0]
  by_cases ho : ppOk p.v p.n = true
  · rw [ho, if_pos rfl, ppR, nf_of_snd _ _ hs, bs_data, bs_size] at hc
    exact ⟨_, _, 0, Or.inl ⟨rfl, by rw [ek]; exact ho, by rw [ep], by rw [ep]⟩, hc⟩
  · rw [if_neg ho] at hc
    exact ⟨_, _, 1, Or.inr ⟨rfl, by rw [ek]; simpa using ho⟩, hc⟩
theorem put_k1 (p : Fd) (x : List UInt8 × Nat) (hs : B.Snd x.1 x.2) (hz : x.1.length ≤ 1000000) (h1 : p.kind = 1) (hf : p.fit) :
    ∃ s2 f2 E, PutRel1 p x s2 f2 E ∧ ∀ w, Calls Try.prog 22 #[.agg #[.string (bs x.1), .int .i64 (x.2 : Nat)], .int .i64 p.v, .int .i64 p.n] w fun e w' => e = .returned (.tuple #[.agg #[.string s2, .int .i64 f2], .int .i64 E]) ∧ Below w.heap.size w w' := by
  have hc := fun w => putsigned_any (bs x.1) (x.2 : Nat) p.v p.n w (by rw [bs_size]; omega) hf.1 hf.2
  have ek : p.ok = psOk p.v p.n := by unfold Fd.ok; rw [if_neg (by omega), if_pos h1]
  have ep : p.put x = (B.putL x.1 x.2 (sgU p.v p.n.toNat) p.n.toNat, B.putF x.1.length x.2 p.n.toNat) := by unfold Fd.put; rw [if_neg (by omega), if_pos h1]
  by_cases ho : psOk p.v p.n = true
  · rw [ho, if_pos rfl, ppR, nf_of_snd _ _ hs, bs_data, bs_size] at hc
    exact ⟨_, _, 0, Or.inl ⟨rfl, by rw [ek]; exact ho, by rw [ep], by rw [ep]⟩, hc⟩
  · rw [if_neg ho] at hc
    exact ⟨_, _, 1, Or.inr ⟨rfl, by rw [ek]; simpa using ho⟩, hc⟩
theorem put_k2 (p : Fd) (x : List UInt8 × Nat) (hs : B.Snd x.1 x.2) (hz : x.1.length ≤ 1000000) (h2 : p.kind = 2) :
    ∃ s2 f2 E, PutRel1 p x s2 f2 E ∧ ∀ w, Calls Try.prog 23 #[.agg #[.string (bs x.1), .int .i64 (x.2 : Nat)], .int .i64 p.v, .int .i64 p.n] w fun e w' => e = .returned (.tuple #[.agg #[.string s2, .int .i64 f2], .int .i64 E]) ∧ Below w.heap.size w w' := by
  have hc := fun w => putlittle_any (bs x.1) (x.2 : Nat) p.v p.n w (by rw [bs_size]; omega)
  have ek : p.ok = ltOk p.v p.n := by unfold Fd.ok; rw [if_neg (by omega), if_neg (by omega), if_pos h2]
  have ep : p.put x = (x.1 ++ B.le p.n.toNat p.v.toNat, 0) := by unfold Fd.put; rw [if_neg (by omega), if_neg (by omega), if_pos h2]
  by_cases ho : ltOk p.v p.n = true
  · rw [ho, if_pos rfl, ltR, bs_append] at hc
    exact ⟨_, _, 0, Or.inl ⟨rfl, by rw [ek]; exact ho, by rw [ep], by rw [ep]; rfl⟩, hc⟩
  · rw [if_neg ho] at hc
    exact ⟨_, _, 1, Or.inr ⟨rfl, by rw [ek]; simpa using ho⟩, hc⟩
theorem put_k3 (p : Fd) (x : List UInt8 × Nat) (h3 : p.kind = 3) : PutRel1 p x (bs x.1) 0 0 := by
  have ek : p.ok = true := by unfold Fd.ok; rw [if_neg (by omega), if_neg (by omega), if_neg (by omega)]
  have ep : p.put x = (x.1, 0) := by unfold Fd.put; rw [if_neg (by omega), if_neg (by omega), if_neg (by omega)]
  exact Or.inl ⟨rfl, ek, by rw [ep], by rw [ep]; rfl⟩
theorem kind_val (p : Fd) (h0 : -9223372036854775808 ≤ p.k) (h1 : p.k ≤ 9223372036854775807) : (IntKind.u64.wrap p.k).tmod 4 = (p.kind : Int) := by
  rw [IntKind.wrap_u64, Int.tmod_eq_emod_of_nonneg (by omega)]
  unfold Fd.kind
  omega
/-- what has been written behind k fields -/
def psAt (zs : List Fd) (k : Nat) : List Fd := (zs.take k).filter Fd.ok
theorem psAt_succ (zs : List Fd) (k : Nat) (hk : k < zs.length) : psAt zs (k + 1) = if zs[k].ok = true then psAt zs k ++ [zs[k]] else psAt zs k := by
  unfold psAt
  rw [List.take_succ_eq_append_getElem hk, List.filter_append]
  by_cases h : zs[k].ok = true
  · rw [if_pos h]; simp [List.filter, h]
  · rw [if_neg h]; simp [List.filter, h]
theorem psAt_ok (zs : List Fd) (hf : ∀ p ∈ zs, p.fit) (k : Nat) : ∀ p ∈ psAt zs k, p.ok = true ∧ p.fit := by
  intro p hp
  unfold psAt at hp
  rw [List.mem_filter] at hp
  exact ⟨hp.2, hf p (List.mem_of_mem_take hp.1)⟩
theorem psAt_len (zs : List Fd) (k : Nat) : (psAt zs k).length ≤ k := by
  unfold psAt
  exact Nat.le_trans (List.length_filter_le _ _) (List.length_take_le _ _)
theorem wrAt_snd (zs : List Fd) (hf : ∀ p ∈ zs, p.fit) (k : Nat) : B.Snd (wrF (psAt zs k)).1 (wrF (psAt zs k)).2 ∧ (wrF (psAt zs k)).1.length ≤ 5 * k := by
  obtain ⟨h1, h2⟩ := wr_facts (psAt zs k) (psAt_ok zs hf k) (psAt zs k).length (Nat.le_refl _)
  rw [List.take_length] at h1 h2
  have := psAt_len zs k
  exact ⟨h1, by omega⟩
end Go.Proofs.Ytoofjcpapidgdaa
