import Derived.Test.YtddiccdfeckgaaaDoorZH
/- Layer 5, plain: what is told hangs on the bits that were read alone, and on how many bytes it is; with less room the error is that there is none. -/
namespace Go.Proofs.YtddiccdfeckgaaaDoor.I
set_option linter.unusedVariables false
/-- both begin with the same N bytes -/
def Ag (s t : ByteArray) (N : Nat) : Prop := N ≤ s.size ∧ N ≤ t.size ∧ ∀ j, j < N → s.data.toList.getD j 0 = t.data.toList.getD j 0
theorem Ag.refl (s : ByteArray) : Ag s s s.size := ⟨Nat.le_refl _, Nat.le_refl _, fun _ _ => rfl⟩
theorem ok3 {a a' : Bool} {b b' : Nat} {c c' : List UInt8} (h : (Except.ok (a, b, c) : Except Nat (Bool × Nat × List UInt8)) = .ok (a', b', c')) : a = a' ∧ b = b' ∧ c = c' := by
  injection h with h
  injection h with h1 h2
  injection h2 with h2 h3
  exact ⟨h1, h2, h3⟩
section
variable {s t : ByteArray} {N : Nat}
theorem btv_ag (h : Ag s t N) (p : Nat) (hp : p < 8 * N) : btv s p = btv t p := by unfold btv; rw [h.2.2 (p / 8) (by omega)]
theorem bt_ag (h : Ag s t N) (p : Nat) (hp : p < 8 * N) : bt s p = bt t p := by
  have h1 := h.1
  have h2 := h.2.1
  unfold bt
  rw [if_pos (by omega), if_pos (by omega), btv_ag h p hp]
theorem nb_ag (h : Ag s t N) (p : Nat) : ∀ n, p + n ≤ 8 * N → nb s p n = nb t p n
  | 0, _ => rfl
  | n + 1, hn => by rw [nb, nb, nb_ag h p n (by omega), btv_ag h (p + n) (by omega)]
theorem num_ag (h : Ag s t N) {p n v q : Nat} (hn : num s p n = .ok (v, q)) (hq : q ≤ 8 * N) : num t p n = .ok (v, q) := by
  obtain ⟨rfl, rfl, h3⟩ := num_ok hn
  have h2 := h.2.1
  rw [num_okk (by omega), nb_ag h p n hq]
theorem dec_ag (zs : List Int) (b b' : Nat → Option Nat) (M : Nat) (hb : ∀ i, i < M → b i = b' i) : ∀ (k n c v m : Nat), n + k ≤ 15 → Hf.dec zs b k n c = (v, m, 0) → m ≤ M → Hf.dec zs b' k n c = (v, m, 0) := by
  intro k
  induction k with
  | zero => intro n c v m _ h; rw [Hf.dec] at h; cases h
  | succ k ih =>
    intro n c v m hk h hm
    rw [Hf.dec] at h ⊢
    split at h
    · cases h
    · rename_i hc
      rw [if_neg hc]
      cases hbn : b n with
      | none => rw [hbn] at h; cases h
      | some x =>
        rw [hbn] at h
        simp only [] at h
        split at h
        · rename_i hh
          injection h with e1 e2
          injection e2 with e2 e3
          have : b' n = some x := by rw [← hb n (by omega)]; exact hbn
          rw [this]
          simp only []
          rw [if_pos hh, e1, e2]
        · rename_i hh
          have hmn : n + 1 < m := by
            rcases dec_shape zs b k (n + 1) (2 * c + x) (by omega) with (h2 | h2) | ⟨v', m', e1, e2, _⟩
            · rw [h2] at h; cases h
            · rw [h2] at h; cases h
            · rw [e1] at h
              injection h with _ h
              injection h with h _
              omega
          have : b' n = some x := by rw [← hb n (by omega)]; exact hbn
          rw [this]
          simp only []
          rw [if_neg hh]
          exact ih (n + 1) (2 * c + x) v m (by omega) h hm
theorem sym_ag (h : Ag s t N) {zs : List Int} {p v q : Nat} (hs : sym zs s p = .ok (v, q)) (hq : q ≤ 8 * N) : sym zs t p = .ok (v, q) := by
  obtain ⟨n, h1, rfl⟩ := sym_ok hs
  have h2 : Hf.nx zs (fun m => bt t (p + m)) = (v, n, 0) := dec_ag zs _ _ n (fun i hi => bt_ag h (p + i) (by omega)) 15 0 0 v n (by omega) h1 (Nat.le_refl _)
  unfold sym
  rw [h2, if_pos rfl]
theorem copy_len {d : List Int} {most p k q : Nat} {out o : List UInt8} (h : copy d s most p out k = .ok (q, o)) : out.length ≤ o.length := (copy_lt h).2.2.2
theorem copy_ag (h : Ag s t N) {d : List Int} {most most' p k q : Nat} {out o : List UInt8} (hc : copy d s most p out k = .ok (q, o)) (hq : q ≤ 8 * N) (hm : o.length ≤ most') : copy d t most' p out k = .ok (q, o) := by
  unfold copy at hc ⊢
  split at hc
  · cases hc
  · rename_i hk
    rw [if_neg hk]
    split at hc
    · cases hc
    · rename_i x p1 h1
      split at hc
      · cases hc
      · rename_i j p2 h2
        have a2 := sym_lt h2
        split at hc
        · cases hc
        · rename_i hj
          split at hc
          · cases hc
          · rename_i y p3 h3
            have a3 := num_ok h3
            split at hc
            · cases hc
            · rename_i hfar
              split at hc
              · cases hc
              · rename_i hmost
                injection hc with hc
                injection hc with e1 e2
                subst e1 e2
                rw [cp_len] at hm
                rw [num_ag h h1 (by omega)]
                simp only []
                rw [sym_ag h h2 (by omega)]
                simp only []
                rw [if_neg hj, num_ag h h3 hq]
                simp only []
                rw [if_neg hfar, if_neg (by omega)]
theorem copy_lim {d : List Int} {most most' p k q : Nat} {out o : List UInt8} (hc : copy d s most p out k = .ok (q, o)) (hm : most' < o.length) : copy d s most' p out k = .error 7 := by
  unfold copy at hc ⊢
  split at hc
  · cases hc
  · rename_i hk
    rw [if_neg hk]
    split at hc
    · cases hc
    · rename_i x p1 h1
      split at hc
      · cases hc
      · rename_i j p2 h2
        split at hc
        · cases hc
        · rename_i hj
          split at hc
          · cases hc
          · rename_i y p3 h3
            split at hc
            · cases hc
            · rename_i hfar
              split at hc
              · cases hc
              · rename_i hmost
                injection hc with hc
                injection hc with e1 e2
                subst e1 e2
                rw [cp_len] at hm
                rw [if_neg hj, if_neg hfar, if_pos (by omega)]
theorem one_len {a d : List Int} {most p q : Nat} {b : Bool} {out o : List UInt8} (h : one a d s most p out = .ok (b, q, o)) : out.length ≤ o.length := by
  unfold one at h
  split at h
  · cases h
  · split at h
    · split at h
      · injection h with h; injection h with _ h; injection h with _ h; rw [← h, List.length_append]; omega
      · cases h
    · split at h
      · injection h with h; injection h with _ h; injection h with _ h; rw [← h]; exact Nat.le_refl _
      · split at h
        · cases h
        · rename_i h3
          injection h with h; injection h with _ h; injection h with _ h; rw [← h]; exact copy_len h3
theorem one_ag (h : Ag s t N) {a d : List Int} {most most' p q : Nat} {b : Bool} {out o : List UInt8} (ho : one a d s most p out = .ok (b, q, o)) (hq : q ≤ 8 * N) (hm : o.length ≤ most') : one a d t most' p out = .ok (b, q, o) := by
  unfold one at ho ⊢
  split at ho
  · cases ho
  · rename_i n p1 h1
    split at ho
    · rename_i hn
      split at ho
      · injection ho with ho; injection ho with e0 e1; injection e1 with e1 e2; subst e0 e1 e2
        rw [List.length_append, List.length_singleton] at hm
        rw [sym_ag h h1 hq]
        simp only []
        rw [if_pos hn, if_pos (by omega)]
      · cases ho
    · rename_i hn
      split at ho
      · rename_i hn2
        injection ho with ho; injection ho with e0 e1; injection e1 with e1 e2; subst e0 e1 e2
        rw [sym_ag h h1 hq]
        simp only []
        rw [if_neg hn, if_pos hn2]
      · rename_i hn2
        split at ho
        · cases ho
        · rename_i p3 o3 h3
          have a3 := copy_lt h3
          obtain ⟨e0, e1, e2⟩ := ok3 ho
          rw [← e1] at hq ⊢
          rw [← e2] at hm ⊢
          rw [← e0, sym_ag h h1 (by omega)]
          simp only []
          rw [if_neg hn, if_neg hn2, copy_ag h h3 hq hm]
theorem one_lim {a d : List Int} {most most' p q : Nat} {b : Bool} {out o : List UInt8} (ho : one a d s most p out = .ok (b, q, o)) (h0 : out.length ≤ most') (hm : most' < o.length) : one a d s most' p out = .error 7 := by
  unfold one at ho ⊢
  split at ho
  · cases ho
  · rename_i n p1 h1
    split at ho
    · rename_i hn
      split at ho
      · injection ho with ho; injection ho with e0 e1; injection e1 with e1 e2; subst e0 e1 e2
        rw [List.length_append, List.length_singleton] at hm
        rw [if_pos hn, if_neg (by omega)]
      · cases ho
    · rename_i hn
      split at ho
      · rename_i hn2
        injection ho with ho; injection ho with e0 e1; injection e1 with e1 e2; subst e0 e1 e2
        omega
      · rename_i hn2
        split at ho
        · cases ho
        · rename_i p3 o3 h3
          obtain ⟨e0, e1, e2⟩ := ok3 ho
          rw [← e2] at hm
          rw [if_neg hn, if_neg hn2, copy_lim h3 hm]
theorem syms_len (a d : List Int) (s : ByteArray) (most : Nat) : ∀ (f p q : Nat) (out o : List UInt8), 8 * s.size - p ≤ f → out.length ≤ most → syms a d s most p out = .ok (q, o) → out.length ≤ o.length := by
  intro f
  induction f with
  | zero =>
    intro p q out o hf hm h
    rw [syms] at h
    split at h
    · cases h
    · rename_i h1
      injection h with h; injection h with e1 e2; subst e1 e2
      exact one_len h1
    · rename_i h1
      have a1 := one_lt h1 hm
      omega
  | succ f ih =>
    intro p q out o hf hm h
    rw [syms] at h
    split at h
    · cases h
    · rename_i h1
      injection h with h; injection h with e1 e2; subst e1 e2
      exact one_len h1
    · rename_i q1 o1 h1
      have a1 := one_lt h1 hm
      rw [if_pos ⟨a1.1, a1.2.1⟩] at h
      exact Nat.le_trans (one_len h1) (ih q1 q o1 o (by omega) a1.2.2 h)
theorem syms_ag (h : Ag s t N) (a d : List Int) (most most' : Nat) : ∀ (f p q : Nat) (out o : List UInt8), 8 * s.size - p ≤ f → out.length ≤ most → syms a d s most p out = .ok (q, o) → q ≤ 8 * N → o.length ≤ most' → syms a d t most' p out = .ok (q, o) := by
  intro f
  induction f with
  | zero =>
    intro p q out o hf hm hs hq hm'
    rw [syms] at hs
    split at hs
    · cases hs
    · rename_i h1
      injection hs with hs; injection hs with e1 e2; subst e1 e2
      exact syms_end (one_ag h h1 hq hm')
    · rename_i h1
      have a1 := one_lt h1 hm
      omega
  | succ f ih =>
    intro p q out o hf hm hs hq hm'
    rw [syms] at hs
    split at hs
    · cases hs
    · rename_i h1
      injection hs with hs; injection hs with e1 e2; subst e1 e2
      exact syms_end (one_ag h h1 hq hm')
    · rename_i q1 o1 h1
      have a1 := one_lt h1 hm
      rw [if_pos ⟨a1.1, a1.2.1⟩] at hs
      have a2 := syms_lt a d s most _ q1 q o1 o (Nat.le_refl _) a1.2.2 hs
      have a3 := syms_len a d s most _ q1 q o1 o (Nat.le_refl _) a1.2.2 hs
      have a4 := one_len h1
      rw [syms_more (one_ag h h1 (by omega) (by omega)) (by omega)]
      exact ih q1 q o1 o (by omega) a1.2.2 hs hq hm'
theorem syms_lim (a d : List Int) (s : ByteArray) (most most' : Nat) : ∀ (f p q : Nat) (out o : List UInt8), 8 * s.size - p ≤ f → out.length ≤ most → syms a d s most p out = .ok (q, o) → out.length ≤ most' → most' < o.length → syms a d s most' p out = .error 7 := by
  intro f
  induction f with
  | zero =>
    intro p q out o hf hm hs h0 hm'
    rw [syms] at hs
    split at hs
    · cases hs
    · rename_i h1
      injection hs with hs; injection hs with e1 e2; subst e1 e2
      exact syms_err (one_lim h1 h0 hm')
    · rename_i h1
      have a1 := one_lt h1 hm
      omega
  | succ f ih =>
    intro p q out o hf hm hs h0 hm'
    rw [syms] at hs
    split at hs
    · cases hs
    · rename_i h1
      injection hs with hs; injection hs with e1 e2; subst e1 e2
      exact syms_err (one_lim h1 h0 hm')
    · rename_i q1 o1 h1
      have a1 := one_lt h1 hm
      rw [if_pos ⟨a1.1, a1.2.1⟩] at hs
      by_cases c : o1.length ≤ most'
      · rw [syms_more (one_ag (Ag.refl s) h1 a1.2.1 c) h0]
        exact ih q1 q o1 o (by omega) a1.2.2 hs c hm'
      · exact syms_err (one_lim h1 h0 (by omega))
theorem take_ag (h : Ag s t N) (k n : Nat) (hk : k + n ≤ N) : (s.data.toList.drop k).take n = (t.data.toList.drop k).take n := by
  have h1 := h.1
  have h2 := h.2.1
  apply List.ext_getElem
  · simp; omega
  · intro i i1 i2
    have hi : i < n := by simp at i1; omega
    have e := h.2.2 (k + i) (by omega)
    rw [List.getD_eq_getElem?_getD, List.getD_eq_getElem?_getD, List.getElem?_eq_getElem (by simp; omega), List.getElem?_eq_getElem (by simp; omega)] at e
    rw [List.getElem_take, List.getElem_drop, List.getElem_take, List.getElem_drop]
    exact e
theorem stored_ag (h : Ag s t N) {most most' p q : Nat} {out o : List UInt8} (hs : stored s most p out = .ok (q, o)) (hq : q ≤ 8 * N) (hm : o.length ≤ most') : stored t most' p out = .ok (q, o) := by
  unfold stored at hs ⊢
  split at hs
  · cases hs
  · rename_i n p1 h1
    have a1 := num_ok h1
    split at hs
    · cases hs
    · rename_i m p2 h2
      have a2 := num_ok h2
      split at hs
      · cases hs
      · rename_i hmn
        split at hs
        · cases hs
        · split at hs
          · cases hs
          · rename_i hsz
            injection hs with hs; injection hs with e1 e2; subst e1 e2
            have h2t := h.2.1
            have h8 : p2 / 8 * 8 = p2 := by unfold al at a1; omega
            rw [List.length_append, List.length_take, List.length_drop, show s.data.toList.length = s.size by simp] at hm
            rw [num_ag h h1 (by omega)]
            simp only []
            rw [num_ag h h2 (by omega)]
            simp only []
            rw [if_neg hmn, if_neg (by omega), if_neg (by omega), take_ag h (p2 / 8) n (by omega)]
theorem stored_lim {most most' p q : Nat} {out o : List UInt8} (hs : stored s most p out = .ok (q, o)) (hm : most' < o.length) : stored s most' p out = .error 7 := by
  unfold stored at hs ⊢
  split at hs
  · cases hs
  · rename_i n p1 h1
    split at hs
    · cases hs
    · rename_i m p2 h2
      split at hs
      · cases hs
      · rename_i hmn
        split at hs
        · cases hs
        · split at hs
          · cases hs
          · injection hs with hs; injection hs with e1 e2; subst e1 e2
            rw [List.length_append, List.length_take, List.length_drop] at hm
            rw [if_neg hmn, if_pos (by omega)]
theorem stored_len {most p q : Nat} {out o : List UInt8} (hs : stored s most p out = .ok (q, o)) : out.length ≤ o.length := by
  unfold stored at hs
  split at hs
  · cases hs
  · split at hs
    · cases hs
    · split at hs
      · cases hs
      · split at hs
        · cases hs
        · split at hs
          · cases hs
          · injection hs with hs; injection hs with e1 e2; subst e1 e2
            rw [List.length_append]; omega
theorem cnts_ag (h : Ag s t N) {p q : Nat} {r : Nat × Nat × Nat} (hc : cnts s p = .ok (r, q)) (hq : q ≤ 8 * N) : cnts t p = .ok (r, q) := by
  unfold cnts at hc ⊢
  split at hc
  · cases hc
  · rename_i a p1 h1
    have a1 := num_ok h1
    split at hc
    · cases hc
    · rename_i b p2 h2
      have a2 := num_ok h2
      split at hc
      · cases hc
      · rename_i c p3 h3
        have a3 := num_ok h3
        split at hc
        · cases hc
        · rename_i hab
          injection hc with hc; injection hc with e1 e2; subst e1 e2
          rw [num_ag h h1 (by omega)]
          simp only []
          rw [num_ag h h2 (by omega)]
          simp only []
          rw [num_ag h h3 hq]
          simp only []
          rw [if_neg hab]
theorem metas_ag (h : Ag s t N) : ∀ (k i p : Nat) (f g : Nat → Nat) (q : Nat), metas s k i p f = .ok (q, g) → q ≤ 8 * N → metas t k i p f = .ok (q, g)
  | 0, i, p, f, g, q, hm, hq => hm
  | k + 1, i, p, f, g, q, hm, hq => by
    rw [metas] at hm ⊢
    split at hm
    · cases hm
    · rename_i x p1 h1
      have a1 := num_ok h1
      have a2 := metas_lt k (i + 1) p1 _ g q hm (by omega)
      rw [num_ag h h1 (by omega)]
      exact metas_ag h k (i + 1) p1 _ g q hm hq
theorem rep_ag (h : Ag s t N) {n p q : Nat} {r : Nat × Nat} {l : List Nat} (hr : rep s n p l = .ok (r, q)) (hq : q ≤ 8 * N) : rep t n p l = .ok (r, q) := by
  unfold rep at hr ⊢
  split at hr
  · rename_i hn
    rw [if_pos hn]; exact hr
  · rename_i hn
    rw [if_neg hn]
    split at hr
    · cases hr
    · rename_i hl
      rw [if_neg hl]
      split at hr
      · cases hr
      · rename_i x q' h1
        injection hr with hr; injection hr with e1 e2; subst e1 e2
        rw [num_ag h h1 hq]
theorem lstep_ag (h : Ag s t N) {zs : List Int} {all p q : Nat} {l m : List Nat} (hs : lstep zs s all p l = .ok (q, m)) (hq : q ≤ 8 * N) : lstep zs t all p l = .ok (q, m) := by
  unfold lstep at hs ⊢
  split at hs
  · cases hs
  · rename_i n p1 h1
    have a1 := sym_lt h1
    split at hs
    · cases hs
    · rename_i v tt q' h2
      have a2 := rep_lt h2 a1.2.1
      split at hs
      · cases hs
      · rename_i hall
        injection hs with hs; injection hs with e1 e2; subst e1 e2
        rw [sym_ag h h1 (by omega)]
        simp only []
        rw [rep_ag h h2 hq]
        simp only []
        rw [if_neg hall]
theorem lens_ag (h : Ag s t N) (zs : List Int) (all : Nat) : ∀ (f p q : Nat) (l m : List Nat), 8 * s.size - p ≤ f → l.length ≤ all → p ≤ 8 * s.size → lens zs s all p l = .ok (q, m) → q ≤ 8 * N → lens zs t all p l = .ok (q, m) := by
  intro f
  induction f with
  | zero =>
    intro p q l m hf hl hp hs hq
    rw [lens] at hs
    split at hs
    · rename_i hc
      rw [lens_end hc]; exact hs
    · split at hs
      · cases hs
      · rename_i h1
        have a1 := lstep_lt h1
        omega
  | succ f ih =>
    intro p q l m hf hl hp hs hq
    rw [lens] at hs
    split at hs
    · rename_i hc
      rw [lens_end hc]; exact hs
    · rename_i hc
      split at hs
      · cases hs
      · rename_i q1 m1 h1
        have a1 := lstep_lt h1
        rw [if_pos ⟨a1.1, a1.2.1⟩] at hs
        have a2 := lens_lt zs s all _ q1 q m1 m (Nat.le_refl _) a1.2.2 a1.2.1 hs
        rw [lens_more (by omega) (lstep_ag h h1 (by omega))]
        exact ih q1 q m1 m (by omega) a1.2.2 a1.2.1 hs hq
theorem own_ag (h : Ag s t N) {p q : Nat} {r : List Int × List Int} (hs : own s p = .ok (r, q)) (hq : q ≤ 8 * N) : own t p = .ok (r, q) := by
  unfold own at hs ⊢
  split at hs
  · cases hs
  · rename_i x y z p1 h1
    have a1 := cnts_lt h1
    split at hs
    · cases hs
    · rename_i p2 f h2
      have a2 := metas_lt _ _ _ _ _ _ h2 a1.2.1
      split at hs
      · cases hs
      · rename_i c1
        split at hs
        · cases hs
        · rename_i p3 l h3
          have a3 := lens_lt _ _ _ _ _ _ _ _ (Nat.le_refl _) (Nat.zero_le _) a2.2 h3
          split at hs
          · cases hs
          · rename_i c2
            split at hs
            · cases hs
            · rename_i c3
              split at hs
              · cases hs
              · rename_i c4
                injection hs with hs; injection hs with e1 e2; subst e1 e2
                rw [cnts_ag h h1 (by omega)]
                simp only []
                rw [metas_ag h _ _ _ _ _ _ h2 (by omega)]
                simp only []
                rw [if_neg c1, lens_ag h _ _ _ _ _ _ _ (Nat.le_refl _) (Nat.zero_le _) a2.2 h3 hq]
                simp only []
                rw [if_neg c2, if_neg c3, if_neg c4]
theorem body_ag (h : Ag s t N) {most most' p k q : Nat} {out o : List UInt8} (hb : body s most p out k = .ok (q, o)) (h0 : out.length ≤ most) (hq : q ≤ 8 * N) (hm : o.length ≤ most') : body t most' p out k = .ok (q, o) := by
  unfold body at hb ⊢
  split at hb
  · rename_i c
    rw [if_pos c]; exact stored_ag h hb hq hm
  · rename_i c
    rw [if_neg c]
    split at hb
    · rename_i c1
      rw [if_pos c1]; exact syms_ag h _ _ _ _ _ _ _ _ _ (Nat.le_refl _) h0 hb hq hm
    · rename_i c1
      rw [if_neg c1]
      split at hb
      · rename_i c2
        rw [if_pos c2]
        split at hb
        · cases hb
        · rename_i a d q1 h1
          have a1 := syms_lt _ _ _ _ _ _ _ _ _ (Nat.le_refl _) h0 hb
          rw [own_ag h h1 (by omega)]
          exact syms_ag h _ _ _ _ _ _ _ _ _ (Nat.le_refl _) h0 hb hq hm
      · cases hb
theorem body_lim {most most' p k q : Nat} {out o : List UInt8} (hb : body s most p out k = .ok (q, o)) (h0 : out.length ≤ most) (h1 : out.length ≤ most') (hm : most' < o.length) : body s most' p out k = .error 7 := by
  unfold body at hb ⊢
  split at hb
  · rename_i c
    rw [if_pos c]; exact stored_lim hb hm
  · rename_i c
    rw [if_neg c]
    split at hb
    · rename_i c1
      rw [if_pos c1]; exact syms_lim _ _ _ _ _ _ _ _ _ _ (Nat.le_refl _) h0 hb h1 hm
    · rename_i c1
      rw [if_neg c1]
      split at hb
      · rename_i c2
        rw [if_pos c2]
        split at hb
        · cases hb
        · rename_i a d q1 h2
          exact syms_lim _ _ _ _ _ _ _ _ _ _ (Nat.le_refl _) h0 hb h1 hm
      · cases hb
theorem body_len {most p k q : Nat} {out o : List UInt8} (hb : body s most p out k = .ok (q, o)) (h0 : out.length ≤ most) : out.length ≤ o.length := by
  unfold body at hb
  split at hb
  · exact stored_len hb
  · split at hb
    · exact syms_len _ _ _ _ _ _ _ _ _ (Nat.le_refl _) h0 hb
    · split at hb
      · split at hb
        · cases hb
        · exact syms_len _ _ _ _ _ _ _ _ _ (Nat.le_refl _) h0 hb
      · cases hb
theorem block_parts {most p q : Nat} {b : Bool} {out o : List UInt8} (hb : block s most p out = .ok (b, q, o)) : ∃ x p1 k p2, num s p 1 = .ok (x, p1) ∧ num s p1 2 = .ok (k, p2) ∧ body s most p2 out k = .ok (q, o) ∧ b = (x == 1) := by
  unfold block at hb
  split at hb
  · cases hb
  · rename_i x p1 h1
    split at hb
    · cases hb
    · rename_i k p2 h2
      split at hb
      · cases hb
      · rename_i q' o' h3
        injection hb with hb; injection hb with e1 e2; injection e2 with e2 e3; subst e1 e2 e3
        exact ⟨x, p1, k, p2, h1, h2, h3, rfl⟩
theorem block_ag (h : Ag s t N) {most most' p q : Nat} {b : Bool} {out o : List UInt8} (hb : block s most p out = .ok (b, q, o)) (h0 : out.length ≤ most) (hq : q ≤ 8 * N) (hm : o.length ≤ most') : block t most' p out = .ok (b, q, o) := by
  obtain ⟨x, p1, k, p2, h1, h2, h3, rfl⟩ := block_parts hb
  have a1 := num_ok h1
  have a2 := num_ok h2
  have a3 := body_lt h3 h0
  exact block_of (num_ag h h1 (by omega)) (num_ag h h2 (by omega)) (body_ag h h3 h0 hq hm)
theorem block_lim {most most' p q : Nat} {b : Bool} {out o : List UInt8} (hb : block s most p out = .ok (b, q, o)) (h0 : out.length ≤ most) (h1 : out.length ≤ most') (hm : most' < o.length) : block s most' p out = .error 7 := by
  obtain ⟨x, p1, k, p2, h1', h2, h3, rfl⟩ := block_parts hb
  unfold block
  rw [h1']
  simp only []
  rw [h2]
  simp only []
  rw [body_lim h3 h0 h1 hm]
theorem block_len {most p q : Nat} {b : Bool} {out o : List UInt8} (hb : block s most p out = .ok (b, q, o)) (h0 : out.length ≤ most) : out.length ≤ o.length := by
  obtain ⟨x, p1, k, p2, h1', h2, h3, rfl⟩ := block_parts hb
  exact body_len h3 h0
theorem blocks_len (s : ByteArray) (most : Nat) : ∀ (f p q : Nat) (out o : List UInt8), 8 * s.size - p ≤ f → out.length ≤ most → blocks s most p out = .ok (q, o) → out.length ≤ o.length := by
  intro f
  induction f with
  | zero =>
    intro p q out o hf hm h
    rw [blocks] at h
    split at h
    · cases h
    · rename_i h1
      injection h with h; injection h with e1 e2; subst e1 e2
      exact block_len h1 hm
    · rename_i h1
      have a1 := block_lt h1 hm
      omega
  | succ f ih =>
    intro p q out o hf hm h
    rw [blocks] at h
    split at h
    · cases h
    · rename_i h1
      injection h with h; injection h with e1 e2; subst e1 e2
      exact block_len h1 hm
    · rename_i q1 o1 h1
      have a1 := block_lt h1 hm
      rw [if_pos ⟨a1.1, a1.2.1⟩] at h
      exact Nat.le_trans (block_len h1 hm) (ih q1 q o1 o (by omega) a1.2.2 h)
theorem blocks_ag (h : Ag s t N) (most most' : Nat) : ∀ (f p q : Nat) (out o : List UInt8), 8 * s.size - p ≤ f → out.length ≤ most → blocks s most p out = .ok (q, o) → q ≤ 8 * N → o.length ≤ most' → blocks t most' p out = .ok (q, o) := by
  intro f
  induction f with
  | zero =>
    intro p q out o hf hm hs hq hm'
    rw [blocks] at hs
    split at hs
    · cases hs
    · rename_i h1
      injection hs with hs; injection hs with e1 e2; subst e1 e2
      exact blocks_end (block_ag h h1 hm hq hm')
    · rename_i h1
      have a1 := block_lt h1 hm
      omega
  | succ f ih =>
    intro p q out o hf hm hs hq hm'
    rw [blocks] at hs
    split at hs
    · cases hs
    · rename_i h1
      injection hs with hs; injection hs with e1 e2; subst e1 e2
      exact blocks_end (block_ag h h1 hm hq hm')
    · rename_i q1 o1 h1
      have a1 := block_lt h1 hm
      rw [if_pos ⟨a1.1, a1.2.1⟩] at hs
      have a2 := blocks_lt s most _ q1 q o1 o (Nat.le_refl _) a1.2.2 hs
      have a3 := blocks_len s most _ q1 q o1 o (Nat.le_refl _) a1.2.2 hs
      have a4 := block_len h1 hm
      rw [blocks_more (block_ag h h1 hm (by omega) (by omega)) (by omega)]
      exact ih q1 q o1 o (by omega) a1.2.2 hs hq hm'
theorem blocks_lim (s : ByteArray) (most most' : Nat) : ∀ (f p q : Nat) (out o : List UInt8), 8 * s.size - p ≤ f → out.length ≤ most → blocks s most p out = .ok (q, o) → out.length ≤ most' → most' < o.length → blocks s most' p out = .error 7 := by
  intro f
  induction f with
  | zero =>
    intro p q out o hf hm hs h0 hm'
    rw [blocks] at hs
    split at hs
    · cases hs
    · rename_i h1
      injection hs with hs; injection hs with e1 e2; subst e1 e2
      exact blocks_err (block_lim h1 hm h0 hm')
    · rename_i h1
      have a1 := block_lt h1 hm
      omega
  | succ f ih =>
    intro p q out o hf hm hs h0 hm'
    rw [blocks] at hs
    split at hs
    · cases hs
    · rename_i h1
      injection hs with hs; injection hs with e1 e2; subst e1 e2
      exact blocks_err (block_lim h1 hm h0 hm')
    · rename_i q1 o1 h1
      have a1 := block_lt h1 hm
      rw [if_pos ⟨a1.1, a1.2.1⟩] at hs
      by_cases c : o1.length ≤ most'
      · rw [blocks_more (block_ag (Ag.refl s) h1 hm a1.2.1 c) h0]
        exact ih q1 q o1 o (by omega) a1.2.2 hs c hm'
      · exact blocks_err (block_lim h1 hm h0 (by omega))
end
theorem raw_parts {s : ByteArray} {m : Int} {o : List UInt8} {n : Nat} (h : raw s m = .ok (o, n)) : ∃ p, 0 ≤ m ∧ m ≤ 262144 ∧ blocks s m.toNat 0 [] = .ok (p, o) ∧ n = (p + 7) / 8 := by
  unfold raw at h
  split at h
  · cases h
  · split at h
    · cases h
    · rename_i p o' h1
      injection h with h; injection h with e1 e2; subst e1 e2
      exact ⟨p, by omega, by omega, h1, rfl⟩
theorem raw_ag {s t : ByteArray} {m : Int} {o : List UInt8} {n m' : Nat} (h : raw s m = .ok (o, n)) (ha : Ag s t n) (h1 : o.length ≤ m') (h2 : m' ≤ 262144) : raw t (m' : Int) = .ok (o, n) := by
  obtain ⟨p, m0, m1, hb, rfl⟩ := raw_parts h
  exact raw_end h2 (blocks_ag ha _ m' _ _ _ _ _ (Nat.le_refl _) (Nat.zero_le _) hb (by omega) h1)
theorem raw_lim {s : ByteArray} {m : Int} {o : List UInt8} {n m' : Nat} (h : raw s m = .ok (o, n)) (h1 : m' < o.length) (h2 : m' ≤ 262144) : raw s (m' : Int) = .error 7 := by
  obtain ⟨p, m0, m1, hb, rfl⟩ := raw_parts h
  unfold raw
  rw [if_neg (by omega), Int.toNat_natCast, blocks_lim s _ m' _ _ _ _ _ (Nat.le_refl _) (Nat.zero_le _) hb (Nat.zero_le _) h1]
theorem ag_append (s t : ByteArray) (n : Nat) (h : n ≤ s.size) : Ag s (s ++ t) n := by
  refine ⟨h, by rw [ByteArray.size_append]; omega, fun j hj => ?_⟩
  rw [ByteArray.data_append, Array.toList_append, List.getD_eq_getElem?_getD, List.getD_eq_getElem?_getD, List.getElem?_append_left (by simp; omega)]
theorem ag_take (s : ByteArray) (n : Nat) (h : n ≤ s.size) : Ag s (s.extract 0 n) n := by
  refine ⟨h, by rw [ByteArray.size_extract]; omega, fun j hj => ?_⟩
  rw [ByteArray.data_extract, Array.toList_extract, List.getD_eq_getElem?_getD, List.getD_eq_getElem?_getD]
  simp [hj]
end Go.Proofs.YtddiccdfeckgaaaDoor.I
