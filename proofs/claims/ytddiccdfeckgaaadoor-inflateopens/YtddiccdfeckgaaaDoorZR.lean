import Derived.Test.YtddiccdfeckgaaaDoorZP
import Derived.Deep.CutBlock
import Derived.Deep.RegionHeld3
import Derived.Deep.CutRange
/- Layer 5: the document's lengths of a block's own codes: plain facts. -/
namespace Go.Proofs.YtddiccdfeckgaaaDoor
open Go.RowKit
set_option maxRecDepth 100000
set_option linter.unusedVariables false
set_option linter.unusedSimpArgs false
/-- k lengths of the lengths' codes, whatever the state is -/
def I.metS (s : ByteArray) : Nat → Nat → Nat → Nat → (Nat → Nat) → Nat × Nat × (Nat → Nat)
  | 0, _, A, E, f => (A, E, f)
  | k + 1, i, A, E, f => I.metS s k (i + 1) (I.numS s 3 A E).2.1 (I.numS s 3 A E).2.2 (fun j => if j = I.od i then (I.numS s 3 A E).1 else f j)
theorem I.metS_err (s : ByteArray) : ∀ (k i A E : Nat) (f : Nat → Nat), E ≠ 0 → (I.metS s k i A E f).2.1 = E
  | 0, i, A, E, f, h => rfl
  | k + 1, i, A, E, f, h => by
    have e : I.numS s 3 A E = (0, A, E) := by unfold I.numS; rw [if_pos h]
    rw [I.metS, e]
    exact I.metS_err s k _ _ E _ h
theorem I.metS_ok (s : ByteArray) : ∀ (k i A : Nat) (f g : Nat → Nat) (q : Nat), I.metas s k i A f = .ok (q, g) → I.metS s k i A 0 f = (q, 0, g)
  | 0, i, A, f, g, q, h => by
    injection h with h; injection h with e1 e2; subst e1 e2; rfl
  | k + 1, i, A, f, g, q, h => by
    rw [I.metas] at h
    split at h
    · cases h
    · rename_i x p1 h1
      have e : I.numS s 3 A 0 = (x, p1, 0) := by unfold I.numS; rw [if_neg (fun h => h rfl), h1]
      rw [I.metS, e]
      exact I.metS_ok s k _ _ _ g q h
theorem I.metS_bad (s : ByteArray) : ∀ (k i A : Nat) (f : Nat → Nat) (e : Nat), I.metas s k i A f = .error e → (I.metS s k i A 0 f).2.1 = e
  | 0, i, A, f, e, h => by cases h
  | k + 1, i, A, f, e, h => by
    rw [I.metas] at h
    split at h
    · rename_i e1 h1
      injection h with h; subst h
      have h0 : e1 ≠ 0 := by have := (I.num_err h1).1; omega
      have e : I.numS s 3 A 0 = (0, 0, e1) := by unfold I.numS; rw [if_neg (fun h => h rfl), h1]
      rw [I.metS, e]
      exact I.metS_err s k _ _ e1 _ h0
    · rename_i x p1 h1
      have e' : I.numS s 3 A 0 = (x, p1, 0) := by unfold I.numS; rw [if_neg (fun h => h rfl), h1]
      rw [I.metS, e']
      exact I.metS_bad s k _ _ _ e h
theorem I.numS_8 {s : ByteArray} {A E v A' E' : Nat} (h : I.numS s 3 A E = (v, A', E')) : v < 8 := by
  unfold I.numS at h
  split at h
  · injection h with h1 h2; omega
  · split at h
    · rename_i hx
      have := (I.num_3 hx).1
      injection h with h1 h2; omega
    · injection h with h1 h2; omega
/-- the three numbers' error -/
def I.cE (a b E : Nat) : Nat := if E = 0 ∧ (29 < a ∨ 29 < b) then 3 else E
theorem I.cnts_S {s : ByteArray} {p a A1 E1 b A2 E2 c A3 E3 : Nat} (h1 : I.numS s 5 p 0 = (a, A1, E1)) (h2 : I.numS s 5 A1 E1 = (b, A2, E2)) (h3 : I.numS s 4 A2 E2 = (c, A3, E3)) :
    (I.cE a b E3 = 0 → I.cnts s p = .ok ((a, b, c), A3)) ∧ (I.cE a b E3 ≠ 0 → I.cnts s p = .error (I.cE a b E3)) := by
  unfold I.cE
  by_cases e3 : E3 = 0
  · obtain ⟨e2, n3⟩ := I.numS_zero h3 e3
    obtain ⟨e1, n2⟩ := I.numS_zero h2 e2
    obtain ⟨_, n1⟩ := I.numS_zero h1 e1
    have hc : I.cnts s p = if 29 < a ∨ 29 < b then .error 3 else .ok ((a, b, c), A3) := by
      unfold I.cnts
      rw [n1]
      simp only []
      rw [n2]
      simp only []
      rw [n3]
    by_cases hab : 29 < a ∨ 29 < b
    · rw [if_pos ⟨e3, hab⟩, hc, if_pos hab]
      exact ⟨fun h => by omega, fun _ => rfl⟩
    · rw [if_neg (fun h => hab h.2), hc, if_neg hab]
      exact ⟨fun _ => rfl, fun h => absurd e3 h⟩
  · rw [if_neg (fun h => e3 h.1)]
    refine ⟨fun h => absurd h e3, fun _ => ?_⟩
    unfold I.cnts
    by_cases e1 : E1 = 0
    · rw [(I.numS_zero h1 e1).2]
      simp only []
      rw [e1] at h2
      by_cases e2 : E2 = 0
      · rw [(I.numS_zero h2 e2).2]
        simp only []
        rw [e2] at h3
        rw [I.numS_err h3 e3]
      · rw [I.numS_err h2 e2, I.numS_keep h3 e2]
    · have k2 := I.numS_keep h2 e1
      have k3 := I.numS_keep h3 (by rw [k2]; exact e1)
      rw [I.numS_err h1 e1, k3, k2]
/-- both lists of lengths, ahead of the tests whether they may be codes -/
def I.ownL (s : ByteArray) (p : Nat) : Except Nat ((List Int × List Int) × Nat) :=
  match I.cnts s p with
  | .error e => .error e
  | .ok ((a, b, c), p1) =>
    match I.metas s (c + 4) 0 p1 (fun _ => 0) with
    | .error e => .error e
    | .ok (p2, f) =>
      if errN (I.ints19 f) ≠ 0 then .error (errN (I.ints19 f)) else
      match I.lens (I.ints19 f) s (a + b + 258) p2 [] with
      | .error e => .error e
      | .ok (p3, l) => if l.getD 256 0 = 0 then .error 3 else .ok (((I.ints l).take (a + 257), (I.ints l).drop (a + 257)), p3)
theorem I.own_ownL (s : ByteArray) (p : Nat) : I.own s p = match I.ownL s p with
    | .error e => .error e
    | .ok ((x, y), q) => if errN x ≠ 0 then .error (errN x) else if errN y ≠ 0 then .error (errN y) else .ok ((x, y), q) := by
  unfold I.own I.ownL
  cases I.cnts s p with
  | error e => rfl
  | ok r =>
    obtain ⟨⟨a, b, c⟩, p1⟩ := r
    simp only []
    cases I.metas s (c + 4) 0 p1 (fun _ => 0) with
    | error e => rfl
    | ok r2 =>
      obtain ⟨p2, f⟩ := r2
      simp only []
      split
      · rfl
      · cases I.lens (I.ints19 f) s (a + b + 258) p2 [] with
        | error e => rfl
        | ok r3 =>
          obtain ⟨p3, l⟩ := r3
          simp only []
          split
          · rfl
          · rfl
/-- a block of own codes, by the document's steps -/
theorem I.ownB_L (s : ByteArray) (most p : Nat) (out : List UInt8) : I.ownB s most p out = match I.ownL s p with
    | .error e => .error e
    | .ok ((x, y), q) => cdR s most q out x y := by
  unfold I.ownB
  rw [I.own_ownL]
  cases I.ownL s p with
  | error e => rfl
  | ok r =>
    obtain ⟨⟨x, y⟩, q⟩ := r
    simp only []
    unfold cdR
    split
    · rename_i h
      split at h
      · injection h with h
        subst h
        rw [if_pos (by assumption)]
      · split at h
        · injection h with h
          subst h
          rw [if_neg (by assumption), if_pos (by assumption)]
        · cases h
    · rename_i a d q' h
      split at h
      · cases h
      · split at h
        · cases h
        · injection h with h; injection h with h1 h2; injection h1 with h1 h3; subst h1 h2 h3
          rw [if_neg (by assumption), if_neg (by assumption)]
/-- the last tests of lengths -/
def I.lgR (a : Nat) (RL : Except Nat (Nat × List Nat)) : Except Nat ((List Int × List Int) × Nat) :=
  match RL with
  | .error e => .error e
  | .ok (p3, l) => if l.getD 256 0 = 0 then .error 3 else .ok (((I.ints l).take (a + 257), (I.ints l).drop (a + 257)), p3)
/-- the error of the lengths' codes -/
def I.eE (E : Nat) (f : Nat → Nat) : Nat := if E = 0 then errN (I.ints19 f) else E
theorem I.ownL_S {s : ByteArray} {p a b c A3 E4 A E : Nat} {f : Nat → Nat} (hc : (E4 = 0 → I.cnts s p = .ok ((a, b, c), A3)) ∧ (E4 ≠ 0 → I.cnts s p = .error E4)) (hM : I.metS s (c + 4) 0 A3 E4 (fun _ => 0) = (A, E, f)) :
    I.ownL s p = I.lgR a (if I.eE E f ≠ 0 then .error (I.eE E f) else I.lens (I.ints19 f) s (a + b + 258) A []) ∧ (I.eE E f = 0 → E = 0 ∧ A ≤ 8 * s.size) := by
  unfold I.ownL
  by_cases h4 : E4 = 0
  · have hcn := hc.1 h4
    rw [hcn]
    simp only []
    rw [h4] at hM
    cases hm : I.metas s (c + 4) 0 A3 (fun _ => 0) with
    | error e =>
      have h1 := I.metS_bad s _ _ _ _ _ hm
      rw [hM] at h1
      have h0 := I.metas_err _ _ _ _ _ hm
      have h2 : E = e := h1
      have hE : I.eE E f = e := by unfold I.eE; rw [h2, if_neg h0]
      rw [hE, if_pos h0]
      exact ⟨rfl, fun h => absurd h h0⟩
    | ok r =>
      obtain ⟨q, g⟩ := r
      have h1 := I.metS_ok s _ _ _ _ _ _ hm
      rw [hM] at h1
      injection h1 with e1 e2
      injection e2 with e2 e3
      subst e1 e2 e3
      have hl := I.metas_lt _ _ _ _ _ _ hm (I.cnts_lt hcn).2.1
      have hE : I.eE 0 f = errN (I.ints19 f) := by unfold I.eE; rw [if_pos rfl]
      rw [hE]
      refine ⟨?_, fun _ => ⟨rfl, hl.2⟩⟩
      show (if errN (I.ints19 f) ≠ 0 then _ else _) = _
      by_cases he : errN (I.ints19 f) ≠ 0
      · rw [if_pos he, if_pos he]; rfl
      · rw [if_neg he, if_neg he]
        cases I.lens (I.ints19 f) s (a + b + 258) A [] <;> rfl
  · have h1 := I.metS_err s (c + 4) 0 A3 E4 (fun _ => 0) h4
    rw [hM] at h1
    have h2 : E = E4 := h1
    have hE : I.eE E f = E4 := by unfold I.eE; rw [h2, if_neg h4]
    rw [hc.2 h4, hE, if_pos h4]
    exact ⟨rfl, fun h => absurd h h4⟩
end Go.Proofs.YtddiccdfeckgaaaDoor
/- Layer 5: the document's lengths of a block's own codes. -/
namespace Go.Proofs.YtddiccdfeckgaaaDoor
open Go.RowKit
set_option maxRecDepth 100000
set_option linter.unusedVariables false
set_option linter.unusedSimpArgs false
theorem results_tmps_cell {fn : Func} {p u v : Tmp} {ty : TypeId} (h : fn.results = #[.tmp u, .tmp v, .cell p ty]) (tmps : Array Value) (P : Program) (w : World) :
    (results fn tmps).run P w =
      ((asAddr (tmps.getD p undef)).run P w).andThen fun a w₁ => ((loadVar ty a).run P w₁).andThen fun x w₂ => .ok (.tuple #[tmps.getD u undef, tmps.getD v undef, x]) w₂ := by
  simp only [results, h]
  simp [Sem.run_bind, Result.andThen]
/-- results in two slots, and one that lies in a block -/
theorem post_tmps_cell {P : Program} {fn : Func} {p u v : Tmp} {ty : TypeId} {a : Act} {W : World} {R : Ending → World → Prop} {n : Nat} {d : TypeDesc}
    (hu : P.underlying ty = some d) (hd : (match d with | .struct _ | .array _ _ => true | _ => false) = true) (hi : (P.info? ty).map (·.size) = some n)
    (hres : fn.results = #[.tmp u, .tmp v, .cell p ty]) {b : Nat} {cs : Array Value} {t : TypeId} (hB : Blk W b cs t) (hn : cs.size = n)
    (hp : a.tmps.getD p undef = .pointer (some ⟨b, 0, none⟩)) {x y : Value} (hx : a.tmps.getD u undef = x) (hy : a.tmps.getD v undef = y) (hdf : a.defers = []) (hR : R (.returned (.tuple #[x, y, .agg cs])) W) : bodyPost P fn R .ret a W := by
  refine bodyPost_ret (v := .tuple #[x, y, .agg cs]) ?_ hdf hR
  rw [results_tmps_cell hres, hp, hx, hy]
  simp [asAddr, run_loadVar_row W b t ty cs (0, 0) d hB hu hd (by rw [hi, hn])]
theorem places_eq : (#[.int .i64 16, .int .i64 17, .int .i64 18, .int .i64 0, .int .i64 8, .int .i64 7, .int .i64 9, .int .i64 6, .int .i64 10, .int .i64 5, .int .i64 11, .int .i64 4, .int .i64 12, .int .i64 3, .int .i64 13, .int .i64 2, .int .i64 14, .int .i64 1, .int .i64 15] : Array Value) = intA I.od 19 := by rfl
theorem I.numS_16 {s : ByteArray} {A E v A' E' : Nat} (h : I.numS s 4 A E = (v, A', E')) : v < 16 := by
  unfold I.numS at h
  split at h
  · injection h with h1 h2; omega
  · split at h
    · rename_i hx
      have := (I.num_4 hx).1
      injection h with h1 h2; omega
    · injection h with h1 h2; omega
theorem I.numS_32 {s : ByteArray} {A E v A' E' : Nat} (h : I.numS s 5 A E = (v, A', E')) : v < 32 := by
  unfold I.numS at h
  split at h
  · injection h with h1 h2; omega
  · split at h
    · rename_i hx
      have := (I.num_5 hx).1
      injection h with h1 h2; omega
    · injection h with h1 h2; omega
/-- what lengths tells -/
def LgPost (w : World) (B : Nat) (sl : Value) (out : List UInt8) (R : Except Nat ((List Int × List Int) × Nat)) (e : Ending) (w' : World) : Prop :=
  match R with
  | .ok ((x, y), q) => ∃ g c1 c2, e = .returned (.tuple #[.slice (some ⟨g, 0, none⟩) x.length c1, .slice (some ⟨g, x.length, none⟩) y.length c2, .agg (stA sl (q : Int) 0)]) ∧ Ints w' x (some ⟨g, 0, none⟩) g 0 ∧ Ints w' y (some ⟨g, x.length, none⟩) g x.length ∧ w.heap.size ≤ g ∧ RO w' B sl out ∧ Kp w.heap.size sl w w' sl
  | .error e0 => ∃ A : Nat, e = .returned (.tuple #[.slice none 0 0, .slice none 0 0, .agg (stA sl (A : Int) (e0 : Int))]) ∧ e0 ≠ 0 ∧ RO w' B sl out ∧ Kp w.heap.size sl w w' sl
/-- a state, the result's block, nothing else that is old has turned -/
structure Lg (w : World) (B b4 b6 : Nat) (sl : Value) (A E : Nat) (out : List UInt8) (wr : World) : Prop where
  sx : Sx wr B b4 sl (A : Int) (E : Int) out
  kp : Kp w.heap.size sl w wr sl
  z : Blk wr b6 (stA (.slice none 0 0) 0 0) 52
def CtRel (w : World) (B b4 b6 : Nat) (sl : Value) (out : List UInt8) (A a b E : Nat) (wr : World) : Prop := Lg w B b4 b6 sl A (I.cE a b E) out wr
def MlRel (w : World) (B b4 b6 bo bp : Nat) (sl : Value) (out : List UInt8) (s : ByteArray) (n : Nat) (M : Nat × Nat × (Nat → Nat)) (i : Value) (wr : World) : Prop :=
  ∃ (k A E : Nat) (f : Nat → Nat), k ≤ n ∧ i = .int .i64 (k : Int) ∧ Lg w B b4 b6 sl A E out wr ∧ Blk wr bo (intA f 19) 3 ∧ Blk wr bp (intA I.od 19) 3 ∧ A ≤ 16777216 ∧ (∀ j, f j < 8) ∧ I.metS s (n - k) k A E f = M
theorem Sx.set0 {w : World} {B b : Nat} {sl : Value} {A E : Int} {out : List UInt8} (h : Sx w B b sl A E out) : Sx (w.setCell ⟨b, 0, none⟩ sl) B b sl A E out := h.lay (turned_set w ⟨b, 0, none⟩ _) (h.blk.st0 sl)
theorem meta_lay {w wr w9 : World} {B b4 b6 bo bp A E v x A' E' : Nat} {sl : Value} {out : List UInt8} {f g : Nat → Nat} (h : Lg w B b4 b6 sl A E out wr) (hbo : Blk wr bo (intA f 19) 3) (hbp : Blk wr bp (intA g 19) 3) (hb9 : Below wr.heap.size wr w9) (lb4 : w.heap.size ≤ b4) (lbo : w.heap.size ≤ bo) (ne6 : b6 ≠ b4) (no4 : bo ≠ b4) (no6 : bo ≠ b6) (np4 : bp ≠ b4) (npo : bp ≠ bo) (fso : sl.ownBlock ≠ some bo) :
    Lg w B b4 b6 sl A' E' out ((((w9.setCell ⟨bo, v, none⟩ (.int .i64 (x : Int))).setCell ⟨b4, 0, none⟩ sl).setCell ⟨b4, 1, none⟩ (.int .i64 (A' : Int))).setCell ⟨b4, 2, none⟩ (.int .i64 (E' : Int))) ∧
    Blk ((((w9.setCell ⟨bo, v, none⟩ (.int .i64 (x : Int))).setCell ⟨b4, 0, none⟩ sl).setCell ⟨b4, 1, none⟩ (.int .i64 (A' : Int))).setCell ⟨b4, 2, none⟩ (.int .i64 (E' : Int))) bo (intA (fun i => if i = v then x else f i) 19) 3 ∧
    Blk ((((w9.setCell ⟨bo, v, none⟩ (.int .i64 (x : Int))).setCell ⟨b4, 0, none⟩ sl).setCell ⟨b4, 1, none⟩ (.int .i64 (A' : Int))).setCell ⟨b4, 2, none⟩ (.int .i64 (E' : Int))) bp (intA g 19) 3 := by
  have t1 := turned_set w9 ⟨bo, v, none⟩ (.int .i64 (x : Int))
  have o1 := (hbo.keep hb9).set v (.int .i64 (x : Int))
  rw [intA_set] at o1
  refine ⟨⟨(((((h.sx.keep hb9).turned t1 no4 fso).set0).set1 _).set2 _), ?_, ?_⟩, ?_, ?_⟩
  · exact ((((h.kp.trans (Kp.of_below _ _ hb9)).turned t1 lbo).turned (turned_set _ ⟨b4, 0, none⟩ _) lb4).turned (turned_set _ ⟨b4, 1, none⟩ _) lb4).turned (turned_set _ ⟨b4, 2, none⟩ _) lb4
  · exact ((((h.z.keep hb9).other (a := ⟨bo, v, none⟩) _ (Ne.symm no6)).other (a := ⟨b4, 0, none⟩) _ ne6).other (a := ⟨b4, 1, none⟩) _ ne6).other (a := ⟨b4, 2, none⟩) _ ne6
  · exact ((o1.other (a := ⟨b4, 0, none⟩) _ no4).other (a := ⟨b4, 1, none⟩) _ no4).other (a := ⟨b4, 2, none⟩) _ no4
  · exact ((((hbp.keep hb9).other (a := ⟨bo, v, none⟩) _ npo).other (a := ⟨b4, 0, none⟩) _ np4).other (a := ⟨b4, 1, none⟩) _ np4).other (a := ⟨b4, 2, none⟩) _ np4

theorem OwnL.turned {w w' : World} {B g : Nat} {sl : Value} {xs : List Int} (h : OwnL w B sl xs) (k : Turned g w w') (hg : g < B) : OwnL w' B sl xs :=
  World.ownsRow.kept h (row := some g) ⟨k.os, k.tape, k.output, by have := k.size; omega, fun i hi hn => k.block i (fun e => hn (by rw [e]))⟩ (Or.inr (fun e => by have := (World.ownsRow.lt h g e).1; omega))
/-- a state stays where all that lies below X does -/
theorem Lg.low {w wr w' : World} {B b4 b6 A E X : Nat} {sl : Value} {out : List UInt8} (h : Lg w B b4 b6 sl A E out wr) (hb : Below X wr w') (h4 : b4 < X) (h6 : b6 < X) (hX : w.heap.size ≤ X) (hro : RO w B sl out) : Lg w B b4 b6 sl A E out w' := by
  have hbk : ∀ {g : Nat} {cs : Array Value} {t : TypeId}, Blk wr g cs t → g < X → Blk w' g cs t := fun hB hg => by unfold Blk; rw [hb.block _ hg]; exact hB
  refine ⟨⟨hbk h.sx.blk h4, ?_, h.sx.far, Nat.le_trans h.sx.base hb.size⟩, ?_, hbk h.z h6⟩
  · have hg : wr.grownBy w' none → RO w' B sl out := fun hg => World.ownsRow.kept h.sx.own hg (by cases hv : sl.ownBlock <;> simp)
    rcases h.sx.own.2 with ⟨h1, h2⟩ | ⟨g, cap, cur, h1, h2, h3, h4'⟩
    · exact ⟨h.sx.own.1, Or.inl ⟨h1, h2⟩⟩
    · have hgl : g < w.heap.size := (hro.lt g (by rw [h1]; rfl)).2
      exact ⟨h.sx.own.1, Or.inr ⟨g, cap, cur, h1, h2, by rw [hb.block g (by omega)]; exact h3, h4'⟩⟩
  · exact ⟨hb.os.trans h.kp.os, hb.tape.trans h.kp.tape, hb.output.trans h.kp.output, Nat.le_trans h.kp.size hb.size, fun k hk h1 h2 => by rw [hb.block k (by omega)]; exact h.kp.block k hk h1 h2, h.kp.own⟩
theorem Lg.ret {w wr : World} {B b4 b6 A E : Nat} {sl : Value} {out : List UInt8} (h : Lg w B b4 b6 sl A E out wr) (lb6 : w.heap.size ≤ b6) (f6 : sl.ownBlock ≠ some b6) (v0 v1 v2 : Value) :
    RO (((wr.setCell ⟨b6, 0, none⟩ v0).setCell ⟨b6, 1, none⟩ v1).setCell ⟨b6, 2, none⟩ v2).drew B sl out ∧ Kp w.heap.size sl w (((wr.setCell ⟨b6, 0, none⟩ v0).setCell ⟨b6, 1, none⟩ v1).setCell ⟨b6, 2, none⟩ v2).drew sl :=
  ⟨(((h.sx.own.turned (turned_set wr ⟨b6, 0, none⟩ v0) f6).turned (turned_set _ ⟨b6, 1, none⟩ v1) f6).turned (turned_set _ ⟨b6, 2, none⟩ v2) f6).keep (bq_drew (bq_refl _)),
   (((h.kp.turned (turned_set wr ⟨b6, 0, none⟩ v0) lb6).turned (turned_set _ ⟨b6, 1, none⟩ v1) lb6).turned (turned_set _ ⟨b6, 2, none⟩ v2) lb6).trans (Kp.of_below _ _ (bq_drew (bq_refl _)))⟩
def errOf (w : World) (b : Nat) : Nat := match w.cell? ⟨b, 2, none⟩ with | some v => (intOf v).toNat | none => 0
theorem Sx.errOf {w : World} {B b : Nat} {sl : Value} {A : Int} {E : Nat} {out : List UInt8} (h : Sx w B b sl A (E : Int) out) : errOf w b = E := by unfold Go.Proofs.YtddiccdfeckgaaaDoor.errOf; rw [h.blk.st.2.2.1]; simp [intOf]
/-- how many rounds more, at most -/
def lgM (s : ByteArray) (b4 : Nat) (w : World) : Nat := if errOf w b4 ≠ 0 then 0 else 8 * s.size + 1 - atOf w b4
/-- the lists' relation in the main loop -/
def I.lmQ (s : ByteArray) (zs : List Int) (al A E : Nat) (l : List Nat) (RL : Except Nat (Nat × List Nat)) : Prop :=
  (E ≠ 0 ∧ RL = .error E) ∨ (E = 0 ∧ al < l.length ∧ RL = .error 3) ∨ (E = 0 ∧ l.length ≤ al ∧ A ≤ 8 * s.size ∧ errN zs = 0 ∧ I.lens zs s al A l = RL)
def LmRel (w : World) (B b4 b6 bo X : Nat) (sl : Value) (out : List UInt8) (s : ByteArray) (f : Nat → Nat) (al : Nat) (RL : Except Nat (Nat × List Nat)) (v : Value) (wr : World) : Prop :=
  ∃ (A E : Nat) (l : List Nat), OwnL wr X v (I.ints l) ∧ Lg w B b4 b6 sl A E out wr ∧ Blk wr bo (intA f 19) 3 ∧ X ≤ wr.heap.size ∧ l.length ≤ 500 ∧ A ≤ 16777216 ∧ (∀ x ∈ l, x < 16) ∧ I.lmQ s (I.ints19 f) al A E l RL
end Go.Proofs.YtddiccdfeckgaaaDoor
/- Layer 5: the document's lengths of a block's own codes: what the main loop's rounds need. -/
namespace Go.Proofs.YtddiccdfeckgaaaDoor
open Go.RowKit
set_option maxRecDepth 100000
set_option linter.unusedVariables false
set_option linter.unusedSimpArgs false
theorem OwnL.len {w : World} {B : Nat} {sl : Value} {xs : List Int} (h : OwnL w B sl xs) : ∃ a c, sl = .slice a xs.length c ∧ xs.length ≤ c := by
  rcases h.2 with ⟨rfl, h0⟩ | ⟨g, cap, cur, rfl, _, _, h3, _⟩
  · exact ⟨none, 0, by rw [h0], by omega⟩
  · exact ⟨_, cap, rfl, h3⟩
theorem OwnL.lens {w : World} {X : Nat} {v : Value} {l : List Nat} (h : OwnL w X v (I.ints l)) (h0 : 0 < l.length) :
    ∃ g c, v = .slice (some ⟨g, 0, none⟩) l.length c ∧ l.length ≤ c ∧ X ≤ g ∧ ∀ i (hi : i < l.length), w.cell? ⟨g, i, none⟩ = some (.int .i64 (l[i] : Int)) := by
  obtain ⟨a, c', e, hc⟩ := h.len
  obtain ⟨g, c, rfl, _, _⟩ := World.ownsRow.form h (by rw [I.ints_len]; exact h0)
  injection e with _ _ e3
  rw [I.ints_len] at hc
  refine ⟨g, c, by rw [I.ints_len], by omega, (World.ownsRow.lt h g rfl).1, fun i hi => ?_⟩
  have := World.ownsRow.cells h (g := g) rfl i (.int .i64 (l[i] : Int)) (by simp [I.ints, hi])
  rwa [Addr.add_mid, Nat.zero_add] at this
theorem OwnL.part {w : World} {X g c : Nat} {l : List Nat} (h : OwnL w X (.slice (some ⟨g, 0, none⟩) l.length c) (I.ints l)) (hb : ∀ x ∈ l, x < 16) (o n : Nat) (hn : o + n ≤ l.length) (h0 : 0 < l.length) : Ints w (((I.ints l).drop o).take n) (some ⟨g, o, none⟩) g o := by
  obtain ⟨g', c', e, _, _, hc⟩ := h.lens h0
  injection e with e1 e2 e3
  injection e1 with e1
  injection e1 with e1
  subst e1
  have hlen : (((I.ints l).drop o).take n).length = n := by rw [List.length_take, List.length_drop, I.ints_len]; omega
  have hat : ∀ i (hi : i < (((I.ints l).drop o).take n).length), (((I.ints l).drop o).take n)[i] = (l[o + i]'(by omega) : Int) := fun i hi => by
    rw [List.getElem_take, List.getElem_drop, I.ints_at l (o + i) (by omega)]
  refine ⟨Or.inr rfl, fun i hi => ?_, fun i hi => ?_⟩
  · rw [hat i hi]
    have := hb (l[o + i]'(by omega)) (List.getElem_mem _)
    omega
  · rw [hat i hi]
    exact hc (o + i) (by omega)
theorem lg_ok {w w' : World} {B X g c a A : Nat} {sl : Value} {out : List UInt8} {l : List Nat} {R : Except Nat ((List Int × List Int) × Nat)} (hR : R = .ok (((I.ints l).take (a + 257), (I.ints l).drop (a + 257)), A)) (hO : OwnL w' X (.slice (some ⟨g, 0, none⟩) l.length c) (I.ints l)) (hb : ∀ x ∈ l, x < 16) (ha : a + 257 ≤ l.length) (hX : w.heap.size ≤ X) (hg : X ≤ g) (hro : RO w' B sl out) (hk : Kp w.heap.size sl w w' sl) (X1 Y1 c1 c2 : Nat) (e1 : X1 = a + 257) (e2 : Y1 = l.length - (a + 257)) :
    LgPost w B sl out R (.returned (.tuple #[.slice (some ⟨g, 0, none⟩) X1 c1, .slice (some ⟨g, X1, none⟩) Y1 c2, .agg (stA sl (A : Int) 0)])) w' := by
  subst hR e1 e2
  have l1 : ((I.ints l).take (a + 257)).length = a + 257 := by rw [List.length_take, I.ints_len]; omega
  have l2 : ((I.ints l).drop (a + 257)).length = l.length - (a + 257) := by rw [List.length_drop, I.ints_len]
  have p1 := hO.part hb 0 (a + 257) (by omega) (by omega)
  have p2 := hO.part hb (a + 257) (l.length - (a + 257)) (by omega) (by omega)
  rw [List.drop_zero] at p1
  rw [List.take_of_length_le (by rw [l2]; omega)] at p2
  refine ⟨g, c1, c2, ?_, p1, ?_, by omega, hro, hk⟩
  · rw [l1, l2]
  · rw [l1]; exact p2
theorem Blk.low {w w' : World} {g X : Nat} {cs : Array Value} {t : TypeId} (h : Blk w g cs t) (hb : Below X w w') (hg : g < X) : Blk w' g cs t := by unfold Blk; rw [hb.block _ hg]; exact h
theorem I.rep_S {s : ByteArray} {n p k v A E : Nat} {l : List Nat} (hn : 16 ≤ n) (hne : n = 16 → l ≠ []) (hk : (I.rpt (n - 16)).2 = k) (h : I.numS s k p 0 = (v, A, E)) (hk7 : k ≤ 7) :
    ((E ≠ 0 ∧ I.rep s n p l = .error E) ∨ (E = 0 ∧ I.rep s n p l = .ok ((if n = 16 then l.getD (l.length - 1) 0 else 0, (I.rpt (n - 16)).1 + v), A))) ∧ v < 128 := by
  have hnn : ¬ (n = 16 ∧ l = []) := fun h => hne h.1 h.2
  unfold I.rep
  rw [if_neg (by omega), if_neg hnn, hk]
  by_cases e : E = 0
  · have h1 := (I.numS_zero h e).2
    rw [h1]
    exact ⟨Or.inr ⟨e, rfl⟩, I.num_128 h1 hk7⟩
  · rw [I.numS_err h e]
    refine ⟨Or.inl ⟨e, rfl⟩, ?_⟩
    unfold I.numS at h
    rw [if_neg (fun h => h rfl), I.numS_err (by unfold I.numS; rw [if_neg (fun h => h rfl)]; exact h) e] at h
    injection h with h1 h2
    omega
theorem I.lmQ_step {zs : List Int} {s : ByteArray} {al A n p A2 E2 x t : Nat} {l : List Nat} {RL : Except Nat (Nat × List Nat)} (h1 : I.sym zs s A = .ok (n, p)) (hlt : l.length < al) (hez : errN zs = 0) (hRL : I.lens zs s al A l = RL)
    (hr : (E2 ≠ 0 ∧ I.rep s n p l = .error E2) ∨ (E2 = 0 ∧ I.rep s n p l = .ok ((x, t), A2))) : I.lmQ s zs al A2 E2 (l ++ List.replicate t x) RL ∧ (E2 = 0 → A < A2) := by
  rcases hr with ⟨e, hr⟩ | ⟨e, hr⟩
  · refine ⟨Or.inl ⟨e, ?_⟩, fun h => absurd h e⟩
    rw [← hRL]
    exact I.lens_err hlt (by unfold I.lstep; rw [h1]; simp only []; rw [hr])
  · have a1 := I.sym_lt h1
    have a2 := I.rep_lt hr a1.2.1
    refine ⟨?_, fun _ => by omega⟩
    by_cases c : al < l.length + t
    · refine Or.inr (Or.inl ⟨e, by rw [List.length_append, List.length_replicate]; exact c, ?_⟩)
      rw [← hRL]
      exact I.lens_err hlt (by unfold I.lstep; rw [h1]; simp only []; rw [hr]; simp only []; rw [if_pos c])
    · have hst : I.lstep zs s al A l = .ok (A2, l ++ List.replicate t x) := by unfold I.lstep; rw [h1]; simp only []; rw [hr]; simp only []; rw [if_neg c]
      exact Or.inr (Or.inr ⟨e, (I.lstep_lt hst).2.2, (I.lstep_lt hst).2.1, hez, by rw [← hRL]; exact (I.lens_more hlt hst).symm⟩)
theorem lgM_lt {s : ByteArray} {wr w' : World} {B b4 A A2 E2 : Nat} {sl : Value} {out : List UInt8} (h : Sx wr B b4 sl (A : Int) 0 out) (h2 : Sx w' B b4 sl (A2 : Int) (E2 : Int) out) (hA : A ≤ 8 * s.size) (hq : E2 = 0 → A < A2) : lgM s b4 w' < lgM s b4 wr := by
  have e0 : errOf wr b4 = 0 := Sx.errOf (E := 0) h
  unfold lgM
  rw [e0, h2.errOf, h.atOf, h2.atOf, Int.toNat_natCast, Int.toNat_natCast, if_neg (show ¬ (0 : Nat) ≠ 0 from fun h => h rfl)]
  split
  · omega
  · rename_i h3
    have := hq (by omega)
    omega
def LrRel (w : World) (B b4 b6 bo X : Nat) (sl : Value) (out : List UInt8) (f : Nat → Nat) (A E : Nat) (l : List Nat) (x t : Nat) (v i : Value) (wr : World) : Prop :=
  ∃ k, k ≤ t ∧ i = .int .i64 (k : Int) ∧ OwnL wr X v (I.ints (l ++ List.replicate k x)) ∧ Lg w B b4 b6 sl A E out wr ∧ Blk wr bo (intA f 19) 3 ∧ X ≤ wr.heap.size
theorem I.ints_rep (l : List Nat) (k x : Nat) : I.ints (l ++ List.replicate k x) = I.ints l ++ List.replicate k (x : Int) := by simp [I.ints]
end Go.Proofs.YtddiccdfeckgaaaDoor
