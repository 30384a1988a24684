import Derived.Test.YtfaipbdkkkhacaaYK
import Derived.Test.YtfaipbdkkkhacaaYD
import Derived.Test.YtfaipbdkkkhacaaYG2
import Derived.Test.YtfaipbdkkkhacaaYE
/- Plain facts: fields that are written one behind the other stand where they are read. -/
namespace Go.Proofs.Ytfaipbdkkkhacaa
open Go.RowKit
set_option linter.unusedVariables false
namespace B

/-- the first m bits of both are the same -/
def Agree (l l' : List UInt8) (m : Nat) : Prop := m ≤ 8 * l.length ∧ m ≤ 8 * l'.length ∧ bv l' / P2 (8 * l'.length - m) = bv l / P2 (8 * l.length - m)
theorem agree_refl (l : List UInt8) (m : Nat) (h : m ≤ 8 * l.length) : Agree l l m := ⟨h, h, rfl⟩
theorem agree_less {l l' : List UInt8} {m k : Nat} (h : Agree l l' m) (hk : k ≤ m) : Agree l l' k := by
  obtain ⟨h1, h2, h3⟩ := h
  refine ⟨by omega, by omega, ?_⟩
  have e1 : 8 * l'.length - k = (8 * l'.length - m) + (m - k) := by omega
  have e2 : 8 * l.length - k = (8 * l.length - m) + (m - k) := by omega
  rw [e1, e2, ← div_div, ← div_div, h3]
theorem agree_trans {l l' l'' : List UInt8} {m k : Nat} (h : Agree l l' m) (h' : Agree l' l'' k) (hk : m ≤ k) : Agree l l'' m := by
  have h2 := agree_less h' hk
  exact ⟨h.1, h2.2.1, h2.2.2.trans h.2.2⟩
theorem agree_fld {l l' : List UInt8} {m : Nat} (h : Agree l l' m) (p n : Nat) (hp : p + n ≤ m) : fld l' p n = fld l p n := by
  have h2 := (agree_less h hp).2.2
  unfold fld
  rw [h2]
theorem agree_take {l l' : List UInt8} (h : Agree l l' (8 * l.length)) : l'.take l.length = l := by
  obtain ⟨_, h2, h3⟩ := h
  apply bv_inj
  · rw [List.length_take]; omega
  · rw [bv_take, show 8 * (l'.length - l.length) = 8 * l'.length - 8 * l.length by omega, h3, Nat.sub_self, P2_zero, Nat.div_one]
theorem putL_agree (l : List UInt8) (f v n : Nat) (hf : f ≤ 8 * l.length) (hv : v < P2 n) : Agree l (putL l f v n) (8 * l.length - f) := by
  have hN := putN_eq l.length f n
  refine ⟨by omega, by rw [putL_len]; omega, ?_⟩
  have hh := putL_head l f v n hf hv
  rw [putL_len, show 8 * putN l.length f n - (8 * l.length - f) = putF l.length f n + n by omega, ← div_div, hh, mul_add_div _ _ _ hv, show 8 * l.length - (8 * l.length - f) = f by omega]
theorem putL_fld (l : List UInt8) (f v n : Nat) (hf : f ≤ 8 * l.length) (hv : v < P2 n) : fld (putL l f v n) (8 * l.length - f) n = v := by
  have hN := putN_eq l.length f n
  have hh := putL_head l f v n hf hv
  unfold fld
  rw [putL_len, show 8 * putN l.length f n - (8 * l.length - f + n) = putF l.length f n by omega, hh, mul_add_mod _ _ _ hv]
theorem app_agree (l t : List UInt8) (f : Nat) : Agree l (l ++ t) (8 * l.length - f) := by
  refine agree_less (m := 8 * l.length) ⟨by omega, by rw [List.length_append]; omega, ?_⟩ (by omega)
  rw [List.length_append, bv_append, show 8 * (l.length + t.length) - 8 * l.length = 8 * t.length by omega, mul_add_div _ _ _ (bv_lt t), Nat.sub_self, P2_zero, Nat.div_one]
end B

/-- a field as the law has it -/
structure Fd where
  k : Int
  v : Int
  n : Int
def Fd.kind (p : Fd) : Nat := (p.k % 4).toNat
theorem Fd.kind_lt (p : Fd) : p.kind < 4 := by unfold Fd.kind; omega
/-- is it written -/
def Fd.ok (p : Fd) : Bool := if p.kind = 0 then ppOk p.v p.n else if p.kind = 1 then psOk p.v p.n else if p.kind = 2 then ltOk p.v p.n else true
/-- the writer behind it -/
def Fd.put (p : Fd) (x : List UInt8 × Nat) : List UInt8 × Nat :=
  if p.kind = 0 then (B.putL x.1 x.2 p.v.toNat p.n.toNat, B.putF x.1.length x.2 p.n.toNat)
  else if p.kind = 1 then (B.putL x.1 x.2 (sgU p.v p.n.toNat) p.n.toNat, B.putF x.1.length x.2 p.n.toNat)
  else if p.kind = 2 then (x.1 ++ B.le p.n.toNat p.v.toNat, 0) else (x.1, 0)
def Fd.fit (p : Fd) : Prop := -9223372036854775808 ≤ p.v ∧ p.v ≤ 9223372036854775807
/-- all of them behind each other -/
def wrF (ps : List Fd) : List UInt8 × Nat := ps.foldl (fun x p => p.put x) ([], 0)
theorem wr_snoc (ps : List Fd) (p : Fd) : wrF (ps ++ [p]) = p.put (wrF ps) := by simp [wrF]
/-- how many bits were written -/
def pos (x : List UInt8 × Nat) : Nat := 8 * x.1.length - x.2

theorem ppOk_iff {v n : Int} (h : ppOk v n = true) : 0 ≤ n ∧ n ≤ 31 ∧ 0 ≤ v ∧ v.toNat < B.P2 n.toNat := by
  simp [ppOk] at h; omega
theorem psOk_iff {v n : Int} (h : psOk v n = true) : 0 ≤ n ∧ n ≤ 31 ∧ (wd v : Int) ≤ n := by
  simp [psOk] at h; omega
theorem ltOk_iff {v n : Int} (h : ltOk v n = true) : 1 ≤ n ∧ n ≤ 4 ∧ 0 ≤ v ∧ v.toNat < B.P2 (8 * n.toNat) := by
  simp [ltOk] at h; omega
/-- what one field does: the writer stays sound, what was there stays -/
theorem put_facts (p : Fd) (x : List UInt8 × Nat) (hs : B.Snd x.1 x.2) (ho : p.ok = true) (hf : p.fit) :
    B.Snd (p.put x).1 (p.put x).2 ∧ B.Agree x.1 (p.put x).1 (pos x) ∧ pos x ≤ pos (p.put x) ∧ (p.put x).1.length ≤ x.1.length + 5 := by
  have hs2 := hs.2.1
  unfold Fd.ok at ho
  unfold Fd.put pos
  have snd0 : ∀ l : List UInt8, B.Snd l 0 := fun l => ⟨by omega, by omega, by rw [B.P2_zero, Nat.mod_one]⟩
  by_cases h0 : p.kind = 0
  · rw [if_pos h0] at ho
    simp only [if_pos h0]
    obtain ⟨_, _, _, hv⟩ := ppOk_iff ho
    have hN := B.putN_eq x.1.length x.2 p.n.toNat
    have hF := B.putF_le x.1.length x.2 p.n.toNat
    exact ⟨B.putL_snd _ _ _ _ hs2 hv, B.putL_agree _ _ _ _ hs2 hv, by rw [B.putL_len]; omega, by rw [B.putL_len]; omega⟩
  · rw [if_neg h0] at ho
    simp only [if_neg h0]
    by_cases h1 : p.kind = 1
    · rw [if_pos h1] at ho
      simp only [if_pos h1]
      obtain ⟨_, _, hw⟩ := psOk_iff ho
      have hv := (sgU_lt p.v p.n.toNat hf.1 hf.2 (by omega) (by omega)).1
      have hN := B.putN_eq x.1.length x.2 p.n.toNat
      have hF := B.putF_le x.1.length x.2 p.n.toNat
      exact ⟨B.putL_snd _ _ _ _ hs2 hv, B.putL_agree _ _ _ _ hs2 hv, by rw [B.putL_len]; omega, by rw [B.putL_len]; omega⟩
    · rw [if_neg h1] at ho
      simp only [if_neg h1]
      by_cases h2 : p.kind = 2
      · rw [if_pos h2] at ho
        simp only [if_pos h2]
        have hh := ltOk_iff ho
        refine ⟨snd0 _, B.app_agree _ _ _, ?_, ?_⟩
        · simp only [List.length_append]; omega
        · simp only [List.length_append, B.le_len]; omega
      · simp only [if_neg h2]
        exact ⟨snd0 _, B.agree_refl _ _ (by omega), by omega, by omega⟩
/-- all that is written: sound, each beginning stands at the end -/
theorem wr_facts (ps : List Fd) (ho : ∀ p ∈ ps, p.ok = true ∧ p.fit) : ∀ k, k ≤ ps.length →
    B.Snd (wrF (ps.take k)).1 (wrF (ps.take k)).2 ∧ (wrF (ps.take k)).1.length ≤ 5 * k := by
  intro k
  induction k with
  | zero => intro _; exact ⟨⟨by simp [wrF], by simp [wrF], by simp [wrF, B.P2_zero, Nat.mod_one]⟩, by simp [wrF]⟩
  | succ k ih =>
    intro hk
    obtain ⟨i1, i2⟩ := ih (by omega)
    rw [List.take_succ_eq_append_getElem (by omega), wr_snoc]
    have hm := ho ps[k] (List.getElem_mem _)
    obtain ⟨f1, f2, f3, f4⟩ := put_facts ps[k] _ i1 hm.1 hm.2
    exact ⟨f1, by omega⟩
theorem wr_agree (ps : List Fd) (ho : ∀ p ∈ ps, p.ok = true ∧ p.fit) (k : Nat) (hk : k ≤ ps.length) : ∀ d, k + d ≤ ps.length →
    B.Agree (wrF (ps.take k)).1 (wrF (ps.take (k + d))).1 (pos (wrF (ps.take k))) ∧ pos (wrF (ps.take k)) ≤ pos (wrF (ps.take (k + d))) := by
  intro d
  induction d with
  | zero => intro _; exact ⟨B.agree_refl _ _ (by unfold pos; omega), Nat.le_refl _⟩
  | succ d ih =>
    intro hd
    obtain ⟨i1, i2⟩ := ih (by omega)
    obtain ⟨s1, _⟩ := wr_facts ps ho (k + d) (by omega)
    rw [← Nat.add_assoc, List.take_succ_eq_append_getElem (by omega), wr_snoc]
    have hm := ho ps[k + d] (List.getElem_mem _)
    obtain ⟨f1, f2, f3, f4⟩ := put_facts ps[k + d] _ s1 hm.1 hm.2
    exact ⟨B.agree_trans i1 f2 i2, by omega⟩
theorem wr_end (ps : List Fd) (ho : ∀ p ∈ ps, p.ok = true ∧ p.fit) (k : Nat) (hk : k ≤ ps.length) : B.Agree (wrF (ps.take k)).1 (wrF ps).1 (pos (wrF (ps.take k))) := by
  have h := (wr_agree ps ho k hk (ps.length - k) (by omega)).1
  rw [show k + (ps.length - k) = ps.length by omega, List.take_length] at h
  exact h
end Go.Proofs.Ytfaipbdkkkhacaa
/- Plain facts: fields that stand at a reader are read. -/
namespace Go.Proofs.Ytfaipbdkkkhacaa
open Go.RowKit
set_option linter.unusedVariables false

theorem fld_left (l t : List UInt8) (p n : Nat) (h : p + n ≤ 8 * l.length) : B.fld (l ++ t) p n = B.fld l p n :=
  B.agree_fld (B.app_agree l t 0) p n (by omega)
theorem fld_right (l m : List UInt8) (p n : Nat) (h : p + n ≤ 8 * m.length) : B.fld (l ++ m) (8 * l.length + p) n = B.fld m p n := by
  unfold B.fld
  rw [List.length_append, B.bv_append, show 8 * (l.length + m.length) - (8 * l.length + p + n) = 8 * m.length - (p + n) by omega]
  obtain ⟨d, hd⟩ : ∃ d, d = 8 * m.length - (p + n) := ⟨_, rfl⟩
  rw [← hd, show 8 * m.length = d + (n + p) by omega, B.P2_add, ← Nat.mul_assoc, Nat.mul_right_comm, Nat.mul_comm (B.bv l * B.P2 (n + p)) (B.P2 d), Nat.mul_add_div (B.P2_pos d), B.P2_add, ← Nat.mul_assoc, Nat.mul_right_comm, Nat.mul_comm _ (B.P2 n), Nat.mul_add_mod]
/-- these fields stand at the reader -/
def St (x : RS) (fs : List (Nat × Nat)) : Prop := x.e = 0 ∧ 0 ≤ x.a ∧ x.a.toNat + F.len fs ≤ 8 * x.s.size ∧ B.fld x.s.data.toList x.a.toNat (F.len fs) = F.num fs
theorem st_cons {x : RS} {v n : Nat} {fs : List (Nat × Nat)} (h : St x ((v, n) :: fs)) (hv : v < B.P2 n) (hok : F.ok fs) (hn : n ≤ 31) :
    x.pl n = v ∧ St (x.go n) fs ∧ (x.go n).s = x.s ∧ (x.go n).a = x.a + n := by
  obtain ⟨he, ha, hl, hf⟩ := h
  have hl' : x.a.toNat + (n + F.len fs) ≤ 8 * x.s.size := hl
  have hf' : B.fld x.s.data.toList x.a.toNat (n + F.len fs) = v * B.P2 (F.len fs) + F.num fs := hf
  rw [B.fld_split _ _ _ _ (by rw [bytes_length]; omega)] at hf'
  have h1 := B.fld_lt x.s.data.toList (x.a.toNat + n) (F.len fs)
  have h2 := F.num_lt hok
  have e1 := congrArg (· / B.P2 (F.len fs)) hf'
  have e2 := congrArg (· % B.P2 (F.len fs)) hf'
  simp only [B.mul_add_div _ _ _ h1, B.mul_add_div _ _ _ h2, B.mul_add_mod _ _ _ h1, B.mul_add_mod _ _ _ h2] at e1 e2
  have hE : plE x.s.size x.a n = 0 := by
    unfold plE
    rw [if_pos (by omega), if_neg (by omega)]
  obtain ⟨g1, g2, g3⟩ := RS.fine he (n : Int)
  have gv : plV x.s x.a n = v := by unfold plV; rw [if_pos hE, Int.toNat_natCast, e1]
  have gs : plS x.s x.a n = x.s := if_pos hE
  have ga : plA x.s x.a n = x.a + n := if_pos hE
  rw [g1, g3, gv, gs, ga]
  refine ⟨rfl, ⟨hE, ?_, ?_, ?_⟩, rfl, rfl⟩
  · show 0 ≤ x.a + n; omega
  · show (x.a + n).toNat + F.len fs ≤ 8 * x.s.size; omega
  · show B.fld x.s.data.toList (x.a + n).toNat (F.len fs) = F.num fs
    rw [show (x.a + n).toNat = x.a.toNat + n by omega, e2]
theorem sg_of_pl {x : RS} {z : Int} {n : Nat} (h : x.pl n = sgU z n) (he : x.e = 0) (hn : n ≤ 31) (hw : wd z ≤ n) (hz : I64 z) : x.sg n = z := by
  have hu := sgU_lt z n hz.1 hz.2 hn hw
  obtain ⟨g1, g2, g3⟩ := RS.fine he (n : Int)
  rw [g1] at h
  rw [g2]
  unfold sgV
  rw [h, Int.toNat_natCast, Int.toNat_natCast]
  have h2 := hu.2
  have h3 := hu.1
  unfold sgU at *
  by_cases hneg : z < 0
  · have := h2.1 hneg
    simp only [if_pos hneg] at *
    have hN0 : 0 < n := by
      apply Nat.pos_of_ne_zero
      intro h0
      subst h0
      have := wd_pos z (by omega)
      omega
    rw [if_pos (by omega)]
    omega
  · have := h2.2 (by omega)
    simp only [if_neg hneg] at *
    rw [if_neg (by omega)]
    omega
theorem st_list {n : Nat} (hn : n ≤ 31) {fs : List (Nat × Nat)} (hfs : F.ok fs) : ∀ (l : List Int) (x : RS), (∀ z ∈ l, wd z ≤ n ∧ I64 z) → St x (l.map (fun z => (sgU z n, n)) ++ fs) →
    x.l n l.length = l ∧ St (x.on n l.length) fs ∧ (x.on n l.length).s = x.s ∧ (x.on n l.length).a = x.a + l.length * n
  | [], x, _, h => ⟨rfl, h, rfl, by simp [RS.on]⟩
  | z :: l, x, hl, h => by
    obtain ⟨hw, hz⟩ := hl z (by simp)
    have hv := (sgU_lt z n hz.1 hz.2 hn hw).1
    have hok : F.ok (l.map (fun z => (sgU z n, n)) ++ fs) := F.ok_app (fun p hp => by
      obtain ⟨y, hy, rfl⟩ := List.mem_map.1 hp
      obtain ⟨hw, hz⟩ := hl y (by simp [hy])
      exact (sgU_lt y n hz.1 hz.2 hn hw).1) hfs
    obtain ⟨p1, p2, p3, p4⟩ := st_cons h hv hok hn
    obtain ⟨q1, q2, q3, q4⟩ := st_list hn hfs l (x.go n) (fun y hy => hl y (by simp [hy])) p2
    rw [List.length_cons, RS.l_succ, RS.on_succ, q1, sg_of_pl p1 h.1 hn hw hz]
    refine ⟨rfl, q2, q3.trans p3, ?_⟩
    rw [q4, p4]
    push_cast
    rw [Int.add_mul]
    omega
theorem st_nums {h : Nat} {l : List Int} {fs : List (Nat × Nat)} {x : RS} (hh : h ≤ 31) (h1 : mxW l < B.P2 h) (h2 : mxW l ≤ 31) (hb : ∀ z ∈ l, I64 z) (hfs : F.ok fs) (hx : St x (F.nums h l ++ fs)) :
    x.sevL h l.length = l ∧ St (x.sevS h l.length) fs ∧ (x.sevS h l.length).s = x.s ∧ (x.sevS h l.length).a = x.a + (h + l.length * mxW l) := by
  have hx' : St x ((mxW l, h) :: (l.map (fun z => (sgU z (mxW l), mxW l)) ++ fs)) := hx
  have hok : F.ok (l.map (fun z => (sgU z (mxW l), mxW l)) ++ fs) := F.ok_app (fun p hp => by
    obtain ⟨y, hy, rfl⟩ := List.mem_map.1 hp
    have hz := hb y hy
    exact (sgU_lt y (mxW l) hz.1 hz.2 h2 (F.mxW_mem hy)).1) hfs
  obtain ⟨p1, p2, p3, p4⟩ := st_cons hx' h1 hok hh
  obtain ⟨q1, q2, q3, q4⟩ := st_list h2 hfs l (x.go h) (fun z hz => ⟨F.mxW_mem hz, hb z hz⟩) p2
  unfold RS.sevL RS.sevS
  rw [p1]
  refine ⟨q1, q2, q3.trans p3, ?_⟩
  rw [q4, p4]
  omega
/-- where they were written -/
theorem st_begin (pre post : List UInt8) (fs : List (Nat × Nat)) (hok : F.ok fs) : St (RS.begP (bs (pre ++ F.bys fs ++ post)) (8 * pre.length : Nat)) fs := by
  have hs : (bs (pre ++ F.bys fs ++ post)).size = pre.length + (F.bys fs).length + post.length := by rw [bs_size]; simp; omega
  have hq := F.fr_eq fs
  have ha : alA (bs (pre ++ F.bys fs ++ post)).size ((8 * pre.length : Nat) : Int) = ((8 * pre.length : Nat) : Int) := by
    unfold alA
    rw [hs, if_pos (by omega)]
    omega
  refine ⟨rfl, ?_, ?_, ?_⟩
  · show 0 ≤ alA _ _; rw [ha]; omega
  · show (alA _ _).toNat + _ ≤ 8 * (bs _).size; rw [ha, Int.toNat_natCast, hs]; omega
  · show B.fld (pre ++ F.bys fs ++ post) (alA _ _).toNat _ = _
    rw [ha, Int.toNat_natCast, fld_left _ _ _ _ (by rw [List.length_append]; omega)]
    have := fld_right pre (F.bys fs) 0 (F.len fs) (by omega)
    rw [Nat.add_zero] at this
    rw [this]
    have := B.putL_fld [] 0 (F.num fs) (F.len fs) (by omega) (F.num_lt hok)
    exact this
end Go.Proofs.Ytfaipbdkkkhacaa
/- Plain facts: what is written is taken back. -/
namespace Go.Proofs.Ytfaipbdkkkhacaa
open Go.RowKit
set_option linter.unusedVariables false

/-- at the end: aligned, behind all that was written -/
theorem fin_end {x : RS} {pre : Nat} {fs : List (Nat × Nat)} (he : x.e = 0) (ha : x.a = ((8 * pre + F.len fs : Nat) : Int)) (hl : pre + (F.bys fs).length ≤ x.s.size) : x.fin true = ⟨x.s, ((8 * (pre + (F.bys fs).length) : Nat) : Int), 0⟩ := by
  have hq := F.fr_eq fs
  have hr := F.fr_le fs
  unfold RS.fin
  rw [if_pos he, if_pos rfl]
  congr 1
  unfold alA
  rw [ha, if_pos (by omega)]
  omega
theorem back_rect (pre post : List UInt8) (l r t b : Int) (h : rectOk l r t b = true) :
    rectS (RS.begP (bs (pre ++ F.bys (rectF l r t b) ++ post)) (8 * pre.length : Nat)) = ⟨bs (pre ++ F.bys (rectF l r t b) ++ post), ((8 * (pre.length + (F.bys (rectF l r t b)).length) : Nat) : Int), 0⟩ ∧ rectV (RS.begP (bs (pre ++ F.bys (rectF l r t b) ++ post)) (8 * pre.length : Nat)) = [l, r, t, b] := by
  have hs := st_begin pre post (rectF l r t b) (rectF_ok h)
  obtain ⟨i1, i2, i3, i4⟩ := rect_fit h
  have hw := rect_wd h
  have hb : ∀ z ∈ [l, r, t, b], I64 z := i64_4 i1 i2 i3 i4
  have hx : (RS.begP (bs (pre ++ F.bys (rectF l r t b) ++ post)) (8 * pre.length : Nat)).a = ((8 * pre.length : Nat) : Int) := by
    show alA _ _ = _
    unfold alA
    rw [if_pos (by rw [bs_size]; simp; omega)]
    omega
  have hsz : (RS.begP (bs (pre ++ F.bys (rectF l r t b) ++ post)) (8 * pre.length : Nat)).s = bs (pre ++ F.bys (rectF l r t b) ++ post) := rfl
  generalize RS.begP (bs (pre ++ F.bys (rectF l r t b) ++ post)) (8 * pre.length : Nat) = x at *
  have hs2 : St x (F.nums 5 [l, r, t, b] ++ []) := by rw [List.append_nil]; exact hs
  obtain ⟨q1, q2, q3, q4⟩ := st_nums (h := 5) (by omega) (Nat.lt_of_le_of_lt hw (by decide)) (by omega) hb F.ok_nil hs2
  have q1' : x.sevL 5 4 = [l, r, t, b] := q1
  have q4' : (x.sevS 5 4).a = ((8 * pre.length + F.len (rectF l r t b) : Nat) : Int) := by
    rw [rectF_len]
    have e : (x.sevS 5 4).a = x.a + (5 + 4 * (mxW [l, r, t, b] : Nat)) := q4
    rw [e, hx]
    omega
  have q3' : (x.sevS 5 4).s = bs (pre ++ F.bys (rectF l r t b) ++ post) := by rw [← hsz]; exact q3
  have er : rectS x = ⟨bs (pre ++ F.bys (rectF l r t b) ++ post), ((8 * (pre.length + (F.bys (rectF l r t b)).length) : Nat) : Int), 0⟩ := by
    unfold rectS
    rw [q1', show rectOkL [l, r, t, b] = true from h, fin_end (show (x.sevS 5 4).e = 0 from q2.1) q4' (by rw [q3', bs_size]; simp only [List.length_append]; omega), q3']
  refine ⟨er, ?_⟩
  unfold rectV
  rw [er, if_pos rfl, q1']
theorem st_bit {x : RS} {q : Bool} {fs : List (Nat × Nat)} (h : St x ((b01 q, 1) :: fs)) (hok : F.ok fs) : mB1 x = q ∧ St (x.go 1) fs ∧ (x.go 1).s = x.s ∧ (x.go 1).a = x.a + 1 := by
  obtain ⟨p1, p2, p3, p4⟩ := st_cons h (b01_lt q) hok (by omega)
  refine ⟨?_, p2, p3, p4⟩
  unfold mB1
  rw [show x.pl 1 = ((b01 q : Nat) : Int) from p1]
  cases q <;> rfl
/-- two numbers that may be told -/
theorem st_opt {x : RS} {q : Bool} {u v : Int} {fs : List (Nat × Nat)} (hok : F.ok fs) (hw : mxW [u, v] ≤ 24) (hu : I64 u) (hv : I64 v)
    (h : St x ((if q = true then [] ++ [(b01 q, 1)] ++ F.nums 5 [u, v] else [] ++ [(b01 q, 1)]) ++ fs)) :
    mB1 x = q ∧ (q = true → (x.go 1).sevL 5 2 = [u, v]) ∧ St (mx2 x) fs ∧ (mx2 x).s = x.s ∧ (mx2 x).a = x.a + F.len (if q = true then [] ++ [(b01 q, 1)] ++ F.nums 5 [u, v] else [] ++ [(b01 q, 1)]) := by
  cases q
  · have h' : St x ((b01 false, 1) :: fs) := h
    obtain ⟨p1, p2, p3, p4⟩ := st_bit h' hok
    have e : mx2 x = x.go 1 := if_neg (by rw [p1]; decide)
    rw [e]
    exact ⟨p1, (fun h => by cases h), p2, p3, p4⟩
  · have h' : St x ((b01 true, 1) :: (F.nums 5 [u, v] ++ fs)) := h
    have hn := nums2_ok hw hu hv
    obtain ⟨p1, p2, p3, p4⟩ := st_bit h' (F.ok_app hn hok)
    have e : mx2 x = (x.go 1).sevS 5 2 := if_pos p1
    obtain ⟨q1, q2, q3, q4⟩ := st_nums (h := 5) (by omega) (Nat.lt_of_le_of_lt hw (by decide)) (by omega) (i64_2 hu hv) hok p2
    rw [e]
    refine ⟨p1, fun _ => q1, q2, q3.trans p3, ?_⟩
    have q4' : ((x.go 1).sevS 5 2).a = (x.go 1).a + (5 + 2 * (mxW [u, v] : Nat)) := q4
    rw [q4', p4]
    have el : F.len (if true = true then [] ++ [(b01 true, 1)] ++ F.nums 5 [u, v] else [] ++ [(b01 true, 1)]) = 1 + (5 + 2 * mxW [u, v]) := by
      rw [if_pos rfl, F.len_app, nums2_len]; rfl
    rw [el]
    omega
theorem beg_start (S : ByteArray) (p : Nat) (h : p ≤ S.size) : (RS.begP S ((8 * p : Nat) : Int)).a = ((8 * p : Nat) : Int) ∧ (RS.begP S ((8 * p : Nat) : Int)).s = S := by
  refine ⟨?_, rfl⟩
  show alA _ _ = _
  unfold alA
  rw [if_pos (by omega)]
  omega
theorem q65_no {a d : Int} (h : q65 a d = false) : a = 65536 ∧ d = 65536 := by
  unfold q65 at h
  simp only [Bool.or_eq_false_iff, bne_eq_false_iff_eq] at h
  exact h
theorem qnz_no {b c : Int} (h : qnz b c = false) : b = 0 ∧ c = 0 := by
  unfold qnz at h
  simp only [Bool.or_eq_false_iff, bne_eq_false_iff_eq] at h
  exact h
theorem back_matrix (pre post : List UInt8) (a b c d x y : Int) (h : matOk a b c d x y = true) :
    matS (RS.begP (bs (pre ++ F.bys (matF a b c d x y) ++ post)) (8 * pre.length : Nat)) = ⟨bs (pre ++ F.bys (matF a b c d x y) ++ post), ((8 * (pre.length + (F.bys (matF a b c d x y)).length) : Nat) : Int), 0⟩ ∧ matV (RS.begP (bs (pre ++ F.bys (matF a b c d x y) ++ post)) (8 * pre.length : Nat)) = [a, b, c, d, x, y] := by
  have m := matFacts h
  obtain ⟨fa, fb, fc, fd, fx, fy⟩ := m.fit
  have hs := st_begin pre post (matF a b c d x y) m.o5
  obtain ⟨hx, hsz⟩ := beg_start (bs (pre ++ F.bys (matF a b c d x y) ++ post)) pre.length (by rw [bs_size]; simp only [List.length_append]; omega)
  generalize RS.begP (bs (pre ++ F.bys (matF a b c d x y) ++ post)) (8 * pre.length : Nat) = z at *
  have hn := nums2_ok (show mxW [x, y] ≤ 24 by have := m.w3; omega) fx fy
  have hs1 : St z (mF2 a d ++ ((if qnz b c = true then [] ++ [(b01 (qnz b c), 1)] ++ F.nums 5 [b, c] else [] ++ [(b01 (qnz b c), 1)]) ++ F.nums 5 [x, y])) := by
    have e : matF a b c d x y = mF2 a d ++ ((if qnz b c = true then [] ++ [(b01 (qnz b c), 1)] ++ F.nums 5 [b, c] else [] ++ [(b01 (qnz b c), 1)]) ++ F.nums 5 [x, y]) := by
      unfold matF mF4 mF3
      cases qnz b c <;> simp
    rw [← e]
    exact hs
  have hok2 : F.ok ((if qnz b c = true then [] ++ [(b01 (qnz b c), 1)] ++ F.nums 5 [b, c] else [] ++ [(b01 (qnz b c), 1)]) ++ F.nums 5 [x, y]) := by
    refine F.ok_app ?_ hn
    split
    · exact F.ok_app (F.ok_one (b01_lt _)) (nums2_ok m.w2 fb fc)
    · exact F.ok_one (b01_lt _)
  obtain ⟨p1, p2, p3, p4, p5⟩ := st_opt hok2 m.w1 fa fd hs1
  obtain ⟨q1, q2, q3, q4, q5⟩ := st_opt hn m.w2 fb fc p3
  have q3' : St (mx2 (mx2 z)) (F.nums 5 [x, y] ++ []) := by rw [List.append_nil]; exact q3
  obtain ⟨r1, r2, r3, r4⟩ := st_nums (h := 5) (by omega) (Nat.lt_of_le_of_lt m.w3 (by decide)) (by have := m.w3; omega) (i64_2 fx fy) F.ok_nil q3'
  have r1' : (mx2 (mx2 z)).sevL 5 2 = [x, y] := r1
  have eA : mAD z = [a, d] := by
    unfold mAD
    rw [p1]
    cases hq : q65 a d
    · obtain ⟨rfl, rfl⟩ := q65_no hq; rfl
    · rw [if_pos rfl, p2 hq]
  have eB : mBC (mx2 z) = [b, c] := by
    unfold mBC
    rw [q1]
    cases hq : qnz b c
    · obtain ⟨rfl, rfl⟩ := qnz_no hq; rfl
    · rw [if_pos rfl, q2 hq]
  have eL : matL z = [a, b, c, d, x, y] := by unfold matL; rw [eA, eB, r1']; rfl
  have es : (mx5 z).s = bs (pre ++ F.bys (matF a b c d x y) ++ post) := by rw [← hsz, ← p4, ← q4]; exact r3
  have el : F.len (matF a b c d x y) = F.len (mF2 a d) + (F.len (if qnz b c = true then [] ++ [(b01 (qnz b c), 1)] ++ F.nums 5 [b, c] else [] ++ [(b01 (qnz b c), 1)]) + (5 + 2 * mxW [x, y])) := by
    have e : matF a b c d x y = mF2 a d ++ ((if qnz b c = true then [] ++ [(b01 (qnz b c), 1)] ++ F.nums 5 [b, c] else [] ++ [(b01 (qnz b c), 1)]) ++ F.nums 5 [x, y]) := by
      unfold matF mF4 mF3
      cases qnz b c <;> simp
    rw [e, F.len_app, F.len_app, nums2_len]
  have ea : (mx5 z).a = ((8 * pre.length + F.len (matF a b c d x y) : Nat) : Int) := by
    have r4' : (mx5 z).a = (mx2 (mx2 z)).a + (5 + 2 * (mxW [x, y] : Nat)) := r4
    have p5' : (mx2 z).a = z.a + F.len (mF2 a d) := p5
    rw [r4', q5, p5', hx, el]
    push_cast
    omega
  have er : matS z = ⟨bs (pre ++ F.bys (matF a b c d x y) ++ post), ((8 * (pre.length + (F.bys (matF a b c d x y)).length) : Nat) : Int), 0⟩ := by
    unfold matS
    rw [eL, show matOkL [a, b, c, d, x, y] = true from h, fin_end (show (mx5 z).e = 0 from r2.1) ea (by rw [es, bs_size]; simp only [List.length_append]; omega), es]
  refine ⟨er, ?_⟩
  unfold matV
  rw [er, if_pos rfl, eL]
end Go.Proofs.Ytfaipbdkkkhacaa
/- Plain facts: a change that is written is taken back. -/
namespace Go.Proofs.Ytfaipbdkkkhacaa
open Go.RowKit
set_option linter.unusedVariables false

theorem cxB_iff (d : List Int) : cxB d = false ↔ d = [0, 0, 0, 0] := by unfold cxB; simp
theorem cxM_iff (m : List Int) : cxM m = false ↔ m = [256, 256, 256, 256] := by unfold cxM; simp
theorem back_cx (pre post : List UInt8) (m d : List Int) (hm : m.length = 4) (hd : d.length = 4) (h : cxOk m d = true) :
    cxS (RS.begP (bs (pre ++ F.bys (cxF m d) ++ post)) (8 * pre.length : Nat)) = ⟨bs (pre ++ F.bys (cxF m d) ++ post), ((8 * (pre.length + (F.bys (cxF m d)).length) : Nat) : Int), 0⟩ ∧ cxV (RS.begP (bs (pre ++ F.bys (cxF m d) ++ post)) (8 * pre.length : Nat)) = m ++ d := by
  have hs := st_begin pre post (cxF m d) (cxF_ok h)
  obtain ⟨hx, hsz⟩ := beg_start (bs (pre ++ F.bys (cxF m d) ++ post)) pre.length (by rw [bs_size]; simp only [List.length_append]; omega)
  generalize RS.begP (bs (pre ++ F.bys (cxF m d) ++ post)) (8 * pre.length : Nat) = z at *
  obtain ⟨hw, hb⟩ := tells_wd h
  have hnok : F.ok (F.nums 4 (tells m d)) := F.nums_ok (Nat.lt_of_le_of_lt hw (by decide)) (by omega) hb
  have hs1 : St z ((b01 (cxB d), 1) :: ((b01 (cxM m), 1) :: F.nums 4 (tells m d))) := hs
  obtain ⟨p1, p2, p3, p4⟩ := st_bit hs1 (F.ok_mk (b01_lt _) hnok)
  obtain ⟨q1, q2, q3, q4⟩ := st_bit p2 hnok
  have q2' : St ((z.go 1).go 1) ((mxW (tells m d), 4) :: (tells m d).map fun v => (sgU v (mxW (tells m d)), mxW (tells m d))) := q2
  obtain ⟨r1, r2, r3, r4⟩ := st_cons q2' (Nat.lt_of_le_of_lt hw (by decide)) (F.ok_cons hnok).2 (by omega)
  have cA : cAd z = cxB d := p1
  have cM : cMu z = cxM m := q1
  have rN : cN z = (mxW (tells m d) : Int) := r1
  have hall : ∀ v ∈ tells m d, wd v ≤ mxW (tells m d) ∧ I64 v := fun v hv => ⟨F.mxW_mem hv, hb v hv⟩
  have r2' : St (cx3 z) ((tells m d).map fun v => (sgU v (mxW (tells m d)), mxW (tells m d))) := r2
  have hlen := cxF_len m d
  generalize mxW (tells m d) = n at *
  -- the first list
  have t1 : ∀ v ∈ (if m = [256, 256, 256, 256] then [] else m), wd v ≤ n ∧ I64 v := fun v hv => hall v (by unfold tells; exact List.mem_append_left _ hv)
  have t2 : ∀ v ∈ (if d = [0, 0, 0, 0] then [] else d), wd v ≤ n ∧ I64 v := fun v hv => hall v (by unfold tells; exact List.mem_append_right _ hv)
  have hD : F.ok ((if d = [0, 0, 0, 0] then [] else d).map (fun v => (sgU v n, n)) ++ []) := by
    rw [List.append_nil]
    intro p hp
    obtain ⟨v, hv, rfl⟩ := List.mem_map.1 hp
    obtain ⟨a1, a2⟩ := t2 v hv
    exact (sgU_lt v n a2.1 a2.2 (by omega) a1).1
  have r5 : St (cx3 z) ((if m = [256, 256, 256, 256] then [] else m).map (fun v => (sgU v n, n)) ++ ((if d = [0, 0, 0, 0] then [] else d).map (fun v => (sgU v n, n)) ++ [])) := by
    rw [List.append_nil, ← List.map_append]
    exact r2'
  obtain ⟨u1, u2, u3, u4⟩ := st_list (by omega) hD _ _ t1 r5
  have E4 : cMs z = m ∧ cx4 z = (cx3 z).on n (if m = [256, 256, 256, 256] then [] else m).length := by
    unfold cMs cx4
    rw [cM, rN]
    by_cases hmm : m = [256, 256, 256, 256]
    · rw [(cxM_iff m).2 hmm, hmm]; exact ⟨rfl, rfl⟩
    · have : cxM m = true := by
        cases hc : cxM m
        · exact absurd ((cxM_iff m).1 hc) hmm
        · rfl
      rw [this, if_pos rfl, if_pos rfl, if_neg hmm]
      rw [if_neg hmm, hm] at u1
      rw [hm]
      exact ⟨u1, rfl⟩
  rw [← E4.2] at u2 u3 u4
  obtain ⟨v1, v2, v3, v4⟩ := st_list (by omega) F.ok_nil _ _ t2 u2
  have E5 : cDs z = d ∧ cx5 z = (cx4 z).on n (if d = [0, 0, 0, 0] then [] else d).length := by
    unfold cDs cx5
    rw [cA, rN]
    by_cases hdd : d = [0, 0, 0, 0]
    · rw [(cxB_iff d).2 hdd, hdd]; exact ⟨rfl, rfl⟩
    · have : cxB d = true := by
        cases hc : cxB d
        · exact absurd ((cxB_iff d).1 hc) hdd
        · rfl
      rw [this, if_pos rfl, if_pos rfl, if_neg hdd]
      rw [if_neg hdd, hd] at v1
      rw [hd]
      exact ⟨v1, rfl⟩
  rw [← E5.2] at v2 v3 v4
  have es : (cx5 z).s = bs (pre ++ F.bys (cxF m d) ++ post) := by
    rw [← hsz, ← p3, ← q3, v3, u3]; exact r3
  have ea : (cx5 z).a = ((8 * pre.length + F.len (cxF m d) : Nat) : Int) := by
    have r4' : (cx3 z).a = ((z.go 1).go 1).a + 4 := r4
    have tl : (tells m d).length = (if m = [256, 256, 256, 256] then [] else m).length + (if d = [0, 0, 0, 0] then [] else d).length := by unfold tells; rw [List.length_append]
    rw [v4, u4, r4', q4, p4, hx, hlen, tl, Nat.add_mul]
    push_cast
    omega
  have er : cxS z = ⟨bs (pre ++ F.bys (cxF m d) ++ post), ((8 * (pre.length + (F.bys (cxF m d)).length) : Nat) : Int), 0⟩ := by
    unfold cxS
    rw [E4.1, E5.1, h, fin_end (show (cx5 z).e = 0 from v2.1) ea (by rw [es, bs_size]; simp only [List.length_append]; omega), es]
  refine ⟨er, ?_⟩
  unfold cxV
  rw [er, if_pos rfl, E4.1, E5.1]
end Go.Proofs.Ytfaipbdkkkhacaa
