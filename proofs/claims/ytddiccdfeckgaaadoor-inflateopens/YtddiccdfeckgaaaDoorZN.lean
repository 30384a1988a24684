import Derived.Test.YtddiccdfeckgaaaDoorZJ
import Derived.Test.YtddiccdfeckgaaaDoorZM
import Derived.Deep.RegionLaw
/- Layer 5: the document's number and symbol. -/
namespace Go.Proofs.YtddiccdfeckgaaaDoor
open Go.RowKit
set_option maxRecDepth 100000
set_option linter.unusedVariables false
set_option linter.unusedSimpArgs false
theorem results_tmp_cell {fn : Func} {p u : Tmp} {ty : TypeId} (h : fn.results = #[.tmp u, .cell p ty]) (tmps : Array Value) (P : Program) (w : World) :
    (results fn tmps).run P w =
      ((asAddr (tmps.getD p undef)).run P w).andThen fun a w₁ => ((loadVar ty a).run P w₁).andThen fun v w₂ => .ok (.tuple #[tmps.getD u undef, v]) w₂ := by
  simp only [results, h]
  simp [Sem.run_bind, Result.andThen]
/-- a result in a slot, and one that lies in a block -/
theorem post_tmp_cell {P : Program} {fn : Func} {p u : Tmp} {ty : TypeId} {a : Act} {W : World} {R : Ending → World → Prop} {n : Nat} {d : TypeDesc}
    (hu : P.underlying ty = some d) (hd : (match d with | .struct _ | .array _ _ => true | _ => false) = true) (hi : (P.info? ty).map (·.size) = some n)
    (hres : fn.results = #[.tmp u, .cell p ty]) {b : Nat} {cs : Array Value} {t : TypeId} (hB : Blk W b cs t) (hn : cs.size = n)
    (hp : a.tmps.getD p undef = .pointer (some ⟨b, 0, none⟩)) {v : Value} (hv : a.tmps.getD u undef = v) (hdf : a.defers = []) (hR : R (.returned (.tuple #[v, .agg cs])) W) : bodyPost P fn R .ret a W := by
  refine bodyPost_ret (v := .tuple #[v, .agg cs]) ?_ hdf hR
  rw [results_tmp_cell hres, hp, hv]
  simp [asAddr, run_loadVar_row W b t ty cs (0, 0) d hB hu hd (by rw [hi, hn])]
/-- the cells of a state -/
def stA (sl : Value) (A E : Int) : Array Value := #[sl, .int .i64 A, .int .i64 E]
theorem stA_size (sl : Value) (A E : Int) : (stA sl A E).size = 3 := rfl
theorem stA_one (a : Option Addr) (n c : Nat) (A E : Int) : (stA (.slice a n c) A E).all (·.oneCell') = true := by simp [stA, Value.oneCell']
theorem size54 : (Tryd.prog.info? 52).map (·.size) = some 3 := by kernel_rfl
theorem zero54 (w : World) : (zeroValue 52).run Tryd.prog w = .ok (.agg (stA (.slice none 0 0) 0 0)) w := Tryd.zeroValue52 w
theorem Blk.st {w : World} {b : Nat} {sl : Value} {A E : Int} {t : TypeId} (h : Blk w b (stA sl A E) t) : w.cell? ⟨b, 0, none⟩ = some sl ∧ w.cell? ⟨b, 1, none⟩ = some (.int .i64 A) ∧ w.cell? ⟨b, 2, none⟩ = some (.int .i64 E) ∧ w.frozen? ⟨b, 0, none⟩ = false ∧ w.frozen? ⟨b, 1, none⟩ = false ∧ w.frozen? ⟨b, 2, none⟩ = false :=
  ⟨h.cell 0, h.cell 1, h.cell 2, h.frozen 0, h.frozen 1, h.frozen 2⟩
theorem Blk.st1 {w : World} {b : Nat} {sl : Value} {A E : Int} {t : TypeId} (h : Blk w b (stA sl A E) t) (A' : Int) : Blk (w.setCell ⟨b, 1, none⟩ (.int .i64 A')) b (stA sl A' E) t := h.set 1 _
theorem Blk.st2 {w : World} {b : Nat} {sl : Value} {A E : Int} {t : TypeId} (h : Blk w b (stA sl A E) t) (E' : Int) : Blk (w.setCell ⟨b, 2, none⟩ (.int .i64 E')) b (stA sl A E') t := h.set 2 _
theorem Blk.st0 {w : World} {b : Nat} {sl : Value} {A E : Int} {t : TypeId} (h : Blk w b (stA sl A E) t) (sl' : Value) : Blk (w.setCell ⟨b, 0, none⟩ sl') b (stA sl' A E) t := h.set 0 _
/-- a number of n bits, of a state: the number, the next bit, the error -/
def I.numS (s : ByteArray) (n A E : Nat) : Nat × Nat × Nat := if E ≠ 0 then (0, A, E) else match I.num s A n with | .ok (x, q) => (x, q, 0) | .error e => (0, 0, e)
def I.symS (zs : List Int) (s : ByteArray) (A E : Nat) : Nat × Nat × Nat := if E ≠ 0 then (0, A, E) else match I.sym zs s A with | .ok (x, q) => (x, q, 0) | .error e => (0, 0, e)
theorem I.numS_bits (s : ByteArray) (n A : Nat) (hn : n ≤ 16) : bitsR s (A : Int) (n : Int) = .tuple #[.int .i64 ((I.numS s n A 0).1 : Int), .int .i64 ((I.numS s n A 0).2.1 : Int), .int .i64 ((I.numS s n A 0).2.2 : Int)] := by
  unfold I.numS
  rw [if_neg (fun h => h rfl)]
  cases h : I.num s A n with
  | ok r => obtain ⟨x, q⟩ := r; rw [num_bits_ok h hn]; rfl
  | error e => obtain ⟨e1, rfl⟩ := num_bits_bad h hn; rw [e1]; rfl
theorem I.symS_next (zs : List Int) (s : ByteArray) (A : Nat) : nxR zs s (A : Int) = .tuple #[.int .i64 ((I.symS zs s A 0).1 : Int), .int .i64 ((I.symS zs s A 0).2.1 : Int), .int .i64 ((I.symS zs s A 0).2.2 : Int)] := by
  unfold I.symS
  rw [if_neg (fun h => h rfl)]
  cases h : I.sym zs s A with
  | ok r => obtain ⟨x, q⟩ := r; rw [sym_next_ok h]; rfl
  | error e =>
    obtain ⟨h1, h2⟩ := I.sym_err h
    unfold nxR nxV
    rw [if_neg (by omega), Int.toNat_natCast, h2, if_neg h1]
    unfold Hf.nx at h2 ⊢
    rcases I.dec_shape zs (fun m => bt s (A + m)) 15 0 0 (by omega) with (h3 | h3) | ⟨v', m, e1, _⟩
    · rw [h3] at h2 ⊢; rfl
    · rw [h3] at h2 ⊢; rfl
    · rw [e1] at h2; exact absurd h2.symm h1
theorem I.numS_bd (s : ByteArray) (n A E : Nat) (hs : s.size ≤ 1048576) (hn : n ≤ 16) (hA : A ≤ 16777216) : (I.numS s n A E).1 < 65536 ∧ (I.numS s n A E).2.1 ≤ 16777216 := by
  unfold I.numS
  split
  · exact ⟨by show 0 < 65536; omega, hA⟩
  · split
    · rename_i x q h
      have h1 := nb_lt s A n
      have h2 := P2_16 n hn
      have h3 := I.num_ok h
      exact ⟨by show x < 65536; omega, by show q ≤ 16777216; omega⟩
    · exact ⟨by show 0 < 65536; omega, by show 0 ≤ 16777216; omega⟩
theorem I.symS_bd (zs : List Int) (s : ByteArray) (A E : Nat) (hs : s.size ≤ 1048576) (hz : zs.length ≤ 320) (hA : A ≤ 16777216) : (I.symS zs s A E).1 ≤ 320 ∧ (I.symS zs s A E).2.1 ≤ 16777216 := by
  unfold I.symS
  split
  · exact ⟨by show 0 ≤ 320; omega, hA⟩
  · split
    · rename_i x q h
      have h1 := I.sym_in h
      have h3 := I.sym_lt h
      exact ⟨by show x ≤ 320; omega, by show q ≤ 16777216; omega⟩
    · exact ⟨by show 0 ≤ 320; omega, by show 0 ≤ 16777216; omega⟩
def NsPost (w : World) (sl : Value) (r : Nat × Nat × Nat) (e : Ending) (w' : World) : Prop :=
  e = .returned (.tuple #[.int .i64 (r.1 : Int), .agg (stA sl (r.2.1 : Int) (r.2.2 : Int))]) ∧ Below w.heap.size w w'
set_option maxHeartbeats 1000000 in
set_option maxRecDepth 100000 in
theorem rnumber_zero (s : ByteArray) (A n : Nat) (sa : Option Addr) (sn sc : Nat) (w : World) (hs : s.size ≤ 1048576) (hA : A ≤ 16777216) (hn : n ≤ 16) :
    Calls Tryd.prog 19 #[.string s, .agg (stA (.slice sa sn sc) (A : Int) 0), .int .i64 (n : Int)] w (NsPost w (.slice sa sn sc) (I.numS s n A 0)) := by
  have HC := Lib.hid (fun W => rbits_any s (A : Int) (n : Int) W (by omega) (by omega))
  rw [I.numS_bits s n A hn] at HC
  generalize I.numS s n A 0 = r at *
  obtain ⟨v, A', E'⟩ := r
  dsimp only at HC
  go_enter Tryd.func19, Tryd.ntmps19
  go_upto_region 1 with (first
    | (refine wl_box 52 _ _ rfl rfl rfl ?_; intro W1 b4 B4 l4 k4)
    | (refine wl_alloc 52 _ zero54 rfl rfl ?_; intro W2 b7 B7 l7 k7))
  have y4 := B4.lt
  have C4 := B4.keep k7
  obtain ⟨c0, c1, c2, f0, f1, f2⟩ := C4.st
  have HB := Lib.hid (bq_trans k4 k7)
  have ne : b7 ≠ b4 := by omega
  have lb4 : w.heap.size ≤ b4 := l4
  have lb7 : w.heap.size ≤ b7 := by have := k4.size; omega
  have HB4 := Lib.hid C4
  have HB7 := Lib.hid B7
  clear B4 B7 k4 k7 l4 l7 C4 y4
  go_upto_region 5 with (go_at_call 44; refine (HC.out _).mono ?_; rintro e w' ⟨rfl, rfl⟩)
  have C4 := (HB4.out.st1 (A' : Int)).st2 (E' : Int)
  have C7 := (HB7.out.other (a := ⟨b4, 1, none⟩) (.int .i64 (A' : Int)) ne).other (a := ⟨b4, 2, none⟩) (.int .i64 (E' : Int)) ne
  have HB5 := Lib.hid (bq_set (bq_set HB.out ⟨b4, 1, none⟩ lb4 (.int .i64 (A' : Int))) ⟨b4, 2, none⟩ lb4 (.int .i64 (E' : Int)))
  generalize (W2.setCell ⟨b4, 1, none⟩ (.int .i64 (A' : Int))).setCell ⟨b4, 2, none⟩ (.int .i64 (E' : Int)) = W3 at *
  obtain ⟨d0, d1, d2, _, _, _⟩ := C4.st
  obtain ⟨e0, e1, e2, g0, g1, g2⟩ := C7.st
  have HC7 := Lib.hid C7
  clear c0 c1 c2 f0 f1 f2 HB4 HB7 HB C4 C7
  go_region
  go_wp2
  exact post_tmp_cell Tryd.underlying52 rfl size54 Tryd.results19 (((HC7.out.st0 (.slice sa sn sc)).st1 (A' : Int)).st2 (E' : Int)).drew (stA_size _ _ _) rfl rfl rfl
    ⟨rfl, bq_drew (bq_set (bq_set (bq_set HB5.out ⟨b7, 0, none⟩ lb7 _) ⟨b7, 1, none⟩ lb7 _) ⟨b7, 2, none⟩ lb7 _)⟩
set_option maxRecDepth 100000 in
theorem rnumber_err (s : ByteArray) (A E : Nat) (hE : E ≠ 0) (n : Nat) (sa : Option Addr) (sn sc : Nat) (w : World) :
    Calls Tryd.prog 19 #[.string s, .agg (stA (.slice sa sn sc) (A : Int) (E : Int)), .int .i64 (n : Int)] w (NsPost w (.slice sa sn sc) (0, A, E)) := by
  have q0 : ((E : Int) != 0) = true := by rw [bne_iff_ne]; omega
  clear hE
  go_enter Tryd.func19, Tryd.ntmps19
  go_upto_region 1 with (first
    | (refine wl_box 52 _ _ rfl rfl rfl ?_; intro W1 b4 B4 l4 k4)
    | (refine wl_alloc 52 _ zero54 rfl rfl ?_; intro W2 b7 B7 l7 k7))
  have C4 := B4.keep k7
  obtain ⟨c0, c1, c2, f0, f1, f2⟩ := C4.st
  obtain ⟨e0, e1, e2, g0, g1, g2⟩ := B7.st
  have HB := Lib.hid (bq_trans k4 k7)
  have lb7 : w.heap.size ≤ b7 := by have := k4.size; omega
  have HB7 := Lib.hid B7
  clear B4 B7 k4 k7 l4 l7 C4
  go_upto_region 2 with (fail)
  go_region
  go_wp2
  exact post_tmp_cell Tryd.underlying52 rfl size54 Tryd.results19 (((HB7.out.st0 (.slice sa sn sc)).st1 (A : Int)).st2 (E : Int)).drew (stA_size _ _ _) rfl rfl rfl
    ⟨rfl, bq_drew (bq_set (bq_set (bq_set HB.out ⟨b7, 0, none⟩ lb7 _) ⟨b7, 1, none⟩ lb7 _) ⟨b7, 2, none⟩ lb7 _)⟩
set_option maxRecDepth 100000 in
theorem rsymbol_err (s : ByteArray) (A E : Nat) (hE : E ≠ 0) (la : Option Addr) (ll lc : Nat) (sa : Option Addr) (sn sc : Nat) (w : World) :
    Calls Tryd.prog 47 #[.string s, .agg (stA (.slice sa sn sc) (A : Int) (E : Int)), .slice la ll lc] w (NsPost w (.slice sa sn sc) (0, A, E)) := by
  have q0 : ((E : Int) != 0) = true := by rw [bne_iff_ne]; omega
  clear hE
  go_enter Tryd.func47, Tryd.ntmps47
  go_upto_region 1 with (first
    | (refine wl_box 52 _ _ rfl rfl rfl ?_; intro W1 b4 B4 l4 k4)
    | (refine wl_alloc 52 _ zero54 rfl rfl ?_; intro W2 b7 B7 l7 k7))
  have C4 := B4.keep k7
  obtain ⟨c0, c1, c2, f0, f1, f2⟩ := C4.st
  obtain ⟨e0, e1, e2, g0, g1, g2⟩ := B7.st
  have HB := Lib.hid (bq_trans k4 k7)
  have lb7 : w.heap.size ≤ b7 := by have := k4.size; omega
  have HB7 := Lib.hid B7
  clear B4 B7 k4 k7 l4 l7 C4
  go_upto_region 2 with (fail)
  go_region
  go_wp2
  exact post_tmp_cell Tryd.underlying52 rfl size54 Tryd.results47 (((HB7.out.st0 (.slice sa sn sc)).st1 (A : Int)).st2 (E : Int)).drew (stA_size _ _ _) rfl rfl rfl
    ⟨rfl, bq_drew (bq_set (bq_set (bq_set HB.out ⟨b7, 0, none⟩ lb7 _) ⟨b7, 1, none⟩ lb7 _) ⟨b7, 2, none⟩ lb7 _)⟩
set_option maxHeartbeats 1000000 in
set_option maxRecDepth 100000 in
theorem rsymbol_zero (zs : List Int) (s : ByteArray) (A : Nat) (la : Option Addr) (lb lo lc : Nat) (sa : Option Addr) (sn sc : Nat) (w : World) (hs : s.size ≤ 1048576) (hA : A ≤ 16777216) (hi : Hid (Ints w zs la lb lo)) (he : Hid (errN zs = 0)) :
    Calls Tryd.prog 47 #[.string s, .agg (stA (.slice sa sn sc) (A : Int) 0), .slice la zs.length lc] w (NsPost w (.slice sa sn sc) (I.symS zs s A 0)) := by
  have HC := Lib.hid (fun W (h : Below w.heap.size w W) => rnext_any zs la lb lo lc s (A : Int) W (by omega) (by omega) (Lib.hid (hi.out.keep h)) he)
  rw [I.symS_next zs s A] at HC
  generalize I.symS zs s A 0 = r at *
  obtain ⟨v, A', E'⟩ := r
  dsimp only at HC
  generalize zs.length = L at *
  clear hi he
  go_enter Tryd.func47, Tryd.ntmps47
  go_upto_region 1 with (first
    | (refine wl_box 52 _ _ rfl rfl rfl ?_; intro W1 b4 B4 l4 k4)
    | (refine wl_alloc 52 _ zero54 rfl rfl ?_; intro W2 b7 B7 l7 k7))
  have y4 := B4.lt
  have C4 := B4.keep k7
  obtain ⟨c0, c1, c2, f0, f1, f2⟩ := C4.st
  have HB := Lib.hid (bq_trans k4 k7)
  have ne : b7 ≠ b4 := by omega
  have lb4 : w.heap.size ≤ b4 := l4
  have lb7 : w.heap.size ≤ b7 := by have := k4.size; omega
  have HB4 := Lib.hid C4
  have HB7 := Lib.hid B7
  clear B4 B7 k4 k7 l4 l7 C4 y4
  go_upto_region 4 with (go_at_call 70; refine (HC.out _ HB.out).mono ?_; rintro e w3 ⟨rfl, hb3⟩)
  have D4 := HB4.out.keep hb3
  have D7 := HB7.out.keep hb3
  have HB3 := Lib.hid (bq_trans HB.out hb3)
  obtain ⟨h0, h1, h2, i0, i1, i2⟩ := D4.st
  have HB4 := Lib.hid D4
  have HB7 := Lib.hid D7
  clear c0 c1 c2 f0 f1 f2 hb3 D4 D7
  go_upto_region 5 with (fail)
  have C4 := (HB4.out.st1 (A' : Int)).st2 (E' : Int)
  have C7 := (HB7.out.other (a := ⟨b4, 1, none⟩) (.int .i64 (A' : Int)) ne).other (a := ⟨b4, 2, none⟩) (.int .i64 (E' : Int)) ne
  have HB5 := Lib.hid (bq_set (bq_set HB3.out ⟨b4, 1, none⟩ lb4 (.int .i64 (A' : Int))) ⟨b4, 2, none⟩ lb4 (.int .i64 (E' : Int)))
  generalize (w3.setCell ⟨b4, 1, none⟩ (.int .i64 (A' : Int))).setCell ⟨b4, 2, none⟩ (.int .i64 (E' : Int)) = W3 at *
  obtain ⟨d0, d1, d2, _, _, _⟩ := C4.st
  obtain ⟨e0, e1, e2, g0, g1, g2⟩ := C7.st
  have HC7 := Lib.hid C7
  clear h0 h1 h2 i0 i1 i2 HB4 HB7 HB HB3 C4 C7
  go_region
  go_wp2
  exact post_tmp_cell Tryd.underlying52 rfl size54 Tryd.results47 (((HC7.out.st0 (.slice sa sn sc)).st1 (A' : Int)).st2 (E' : Int)).drew (stA_size _ _ _) rfl rfl rfl
    ⟨rfl, bq_drew (bq_set (bq_set (bq_set HB5.out ⟨b7, 0, none⟩ lb7 _) ⟨b7, 1, none⟩ lb7 _) ⟨b7, 2, none⟩ lb7 _)⟩
theorem rnumber_any (s : ByteArray) (A E n : Nat) (sa : Option Addr) (sn sc : Nat) (w : World) (hs : s.size ≤ 1048576) (hA : A ≤ 16777216) (hn : n ≤ 16) :
    Calls Tryd.prog 19 #[.string s, .agg (stA (.slice sa sn sc) (A : Int) (E : Int)), .int .i64 (n : Int)] w (NsPost w (.slice sa sn sc) (I.numS s n A E)) := by
  by_cases h : E = 0
  · subst h
    exact rnumber_zero s A n sa sn sc w hs hA hn
  · have e : I.numS s n A E = (0, A, E) := by unfold I.numS; rw [if_pos h]
    rw [e]
    exact rnumber_err s A E h n sa sn sc w
theorem rsymbol_any (zs : List Int) (s : ByteArray) (A E : Nat) (la : Option Addr) (lb lo lc : Nat) (sa : Option Addr) (sn sc : Nat) (w : World) (hs : s.size ≤ 1048576) (hA : A ≤ 16777216) (hi : Hid (Ints w zs la lb lo)) (he : Hid (errN zs = 0)) :
    Calls Tryd.prog 47 #[.string s, .agg (stA (.slice sa sn sc) (A : Int) (E : Int)), .slice la zs.length lc] w (NsPost w (.slice sa sn sc) (I.symS zs s A E)) := by
  by_cases h : E = 0
  · subst h
    exact rsymbol_zero zs s A la lb lo lc sa sn sc w hs hA hi he
  · have e : I.symS zs s A E = (0, A, E) := by unfold I.symS; rw [if_pos h]
    rw [e]
    exact rsymbol_err s A E h la zs.length lc sa sn sc w
end Go.Proofs.YtddiccdfeckgaaaDoor
/- Layer 5: the document's lengths and distances of copies. -/
namespace Go.Proofs.YtddiccdfeckgaaaDoor
open Go.RowKit
set_option maxRecDepth 100000
set_option linter.unusedVariables false
set_option linter.unusedSimpArgs false
theorem ln_small (m : Nat) (h : m < 8) : I.ln m = (m + 3, 0) := by
  have : ∀ m : Fin 8, I.ln m = ((m : Nat) + 3, 0) := by decide
  exact this ⟨m, h⟩
theorem ln_loop (m : Nat) (h0 : 8 ≤ m) (h : m < 28) : I.ln m = ((4 + m % 4) * B.P2 (m / 4 - 1) + 3, m / 4 - 1) := by
  have : ∀ m : Fin 28, 8 ≤ (m : Nat) → I.ln m = ((4 + (m : Nat) % 4) * B.P2 ((m : Nat) / 4 - 1) + 3, (m : Nat) / 4 - 1) := by decide
  exact this ⟨m, h⟩ h0
theorem ds_small (m : Nat) (h : m < 4) : I.ds m = (m + 1, 0) := by
  have : ∀ m : Fin 4, I.ds m = ((m : Nat) + 1, 0) := by decide
  exact this ⟨m, h⟩
theorem ds_loop (m : Nat) (h0 : 4 ≤ m) (h : m < 30) : I.ds m = ((2 + m % 2) * B.P2 (m / 2 - 1) + 1, m / 2 - 1) := by
  have : ∀ m : Fin 30, 4 ≤ (m : Nat) → I.ds m = ((2 + (m : Nat) % 2) * B.P2 ((m : Nat) / 2 - 1) + 1, (m : Nat) / 2 - 1) := by decide
  exact this ⟨m, h⟩ h0
def DbRel (c bits : Nat) (t i : Value) : Prop := ∃ k : Nat, k ≤ bits ∧ i = .int .i64 (k : Int) ∧ t = .int .i64 ((c * B.P2 k : Nat) : Int)
set_option maxHeartbeats 1000000 in
theorem rlen_any (N m : Nat) (w : World) (hN : N = m + 257) (hm : m < 29) : Calls Tryd.prog 48 #[.int .i64 (N : Int)] w fun e w' => e = .returned (.tuple #[.int .i64 ((I.ln m).1 : Int), .int .i64 ((I.ln m).2 : Int)]) ∧ w = w' := by
  have hsub : (N : Int) - 257 = (m : Int) := by omega
  have hN2 : N ≤ 300 := by omega
  clear hN
  by_cases c1 : m < 8
  · rw [ln_small m c1]
    go_enter Tryd.func48, Tryd.ntmps48
    go_wp2
    go_ret2
    exact ⟨by simp, rfl⟩
  by_cases c2 : m = 28
  · subst c2
    go_enter Tryd.func48, Tryd.ntmps48
    go_wp2
    go_ret2
    exact ⟨rfl, rfl⟩
  · have c3 : m < 28 := by omega
    have q2 : ((m : Int) == 28) = false := by rw [beq_eq_false_iff_ne]; omega
    have HL := Lib.hid (ln_loop m (by omega) c3)
    obtain ⟨b, hb⟩ : ∃ b, b = m / 4 - 1 := ⟨_, rfl⟩
    obtain ⟨c, hc⟩ : ∃ c, c = 4 + m % 4 := ⟨_, rfl⟩
    rw [← hb, ← hc] at HL
    have e1 : (m : Int) / 4 - 1 = (b : Int) := by omega
    have e2 : 4 + (m : Int) % 4 = (c : Int) := by omega
    have hb6 : b ≤ 6 := by omega
    have hc8 : c ≤ 8 := by omega
    have q1 : decide ((m : Int) < 8) = false := by rw [decide_eq_false_iff_not]; omega
    clear hb hc
    go_enter Tryd.func48, Tryd.ntmps48
    go_wp2
    go_loop [6, 7] (fun t i => DbRel c b t i) (fun _ i => b - (intOf i).toNat)
    case atStart => exact ⟨0, Nat.zero_le _, rfl, by rw [B.P2_zero, Nat.mul_one]⟩
    case round =>
      obtain ⟨k, hk, rfl, rfl⟩ := hrel
      have hp : B.P2 k ≤ 64 := B.P2_le (b := 6) (by omega)
      have hcp : c * B.P2 k ≤ 512 := Nat.mul_le_mul hc8 hp
      have HS : Hid (c * B.P2 (k + 1) = c * B.P2 k * 2) := Lib.hid (by rw [B.P2_succ, Nat.mul_comm 2, Nat.mul_assoc])
      by_cases hlt : k < b
      · generalize c * B.P2 k = M at *
        clear hp
        go_wp2
        go_round
        case rel => exact ⟨k + 1, by omega, by go_num, by rw [HS.out]; go_num⟩
        case measure => simp [intOf]; omega
      · obtain rfl : k = b := by omega
        have HE : Hid (((I.ln m).1 : Int) = ((c * B.P2 k : Nat) : Int) + 3 ∧ ((I.ln m).2 : Int) = (k : Int)) := Lib.hid (by rw [HL.out]; exact ⟨by push_cast; rfl, rfl⟩)
        generalize c * B.P2 k = M at *
        clear hp
        go_wp2
        go_ret2
        exact ⟨by rw [HE.out.1, HE.out.2]; rfl, rfl⟩
set_option maxHeartbeats 1000000 in
theorem rdst_any (m : Nat) (w : World) (hm : m < 30) : Calls Tryd.prog 49 #[.int .i64 (m : Int)] w fun e w' => e = .returned (.tuple #[.int .i64 ((I.ds m).1 : Int), .int .i64 ((I.ds m).2 : Int)]) ∧ w = w' := by
  by_cases c1 : m < 4
  · rw [ds_small m c1]
    go_enter Tryd.func49, Tryd.ntmps49
    go_wp2
    go_ret2
    exact ⟨by simp, rfl⟩
  · have HL := Lib.hid (ds_loop m (by omega) hm)
    obtain ⟨b, hb⟩ : ∃ b, b = m / 2 - 1 := ⟨_, rfl⟩
    obtain ⟨c, hc⟩ : ∃ c, c = 2 + m % 2 := ⟨_, rfl⟩
    rw [← hb, ← hc] at HL
    have e1 : (m : Int) / 2 - 1 = (b : Int) := by omega
    have e2 : 2 + (m : Int) % 2 = (c : Int) := by omega
    have hb6 : b ≤ 13 := by omega
    have hc8 : c ≤ 3 := by omega
    have q1 : decide ((m : Int) < 4) = false := by rw [decide_eq_false_iff_not]; omega
    clear hb hc
    go_enter Tryd.func49, Tryd.ntmps49
    go_wp2
    go_loop [5, 6] (fun t i => DbRel c b t i) (fun _ i => b - (intOf i).toNat)
    case atStart => exact ⟨0, Nat.zero_le _, rfl, by rw [B.P2_zero, Nat.mul_one]⟩
    case round =>
      obtain ⟨k, hk, rfl, rfl⟩ := hrel
      have hp : B.P2 k ≤ 8192 := B.P2_le (b := 13) (by omega)
      have hcp : c * B.P2 k ≤ 24576 := Nat.mul_le_mul hc8 hp
      have HS : Hid (c * B.P2 (k + 1) = c * B.P2 k * 2) := Lib.hid (by rw [B.P2_succ, Nat.mul_comm 2, Nat.mul_assoc])
      by_cases hlt : k < b
      · generalize c * B.P2 k = M at *
        clear hp
        go_wp2
        go_round
        case rel => exact ⟨k + 1, by omega, by go_num, by rw [HS.out]; go_num⟩
        case measure => simp [intOf]; omega
      · obtain rfl : k = b := by omega
        have HE : Hid (((I.ds m).1 : Int) = ((c * B.P2 k : Nat) : Int) + 1 ∧ ((I.ds m).2 : Int) = (k : Int)) := Lib.hid (by rw [HL.out]; exact ⟨by push_cast; rfl, rfl⟩)
        generalize c * B.P2 k = M at *
        clear hp
        go_wp2
        go_ret2
        exact ⟨by rw [HE.out.1, HE.out.2]; rfl, rfl⟩
end Go.Proofs.YtddiccdfeckgaaaDoor
/- Layer 5: the document's fixed codes. -/
namespace Go.Proofs.YtddiccdfeckgaaaDoor
open Go.RowKit
set_option maxRecDepth 100000
set_option linter.unusedVariables false
set_option linter.unusedSimpArgs false
theorem OwnL.keep {w w' : World} {B : Nat} {sl : Value} {xs : List Int} (h : OwnL w B sl xs) (k : Below w.heap.size w w') : OwnL w' B sl xs :=
  World.ownsRow.kept h (row := none) ⟨k.os, k.tape, k.output, k.size, fun i hi _ => k.block i hi⟩ (by cases hv : sl.ownBlock <;> simp)
theorem OwnL.nil (w : World) (B : Nat) : OwnL w B (.slice none 0 0) [] := World.ownsRow_nil w B 3 1
theorem fixA_at (k : Nat) (h : k < 288) : I.fixA[k]'(by rw [fixA_len]; exact h) = if 143 < k ∧ k < 256 then 9 else if 255 < k ∧ k < 280 then 7 else 8 := by
  have : ∀ k : Fin 288, I.fixA[(k : Nat)]'(by rw [fixA_len]; exact k.2) = if 143 < (k : Nat) ∧ (k : Nat) < 256 then 9 else if 255 < (k : Nat) ∧ (k : Nat) < 280 then 7 else 8 := by decide +kernel
  exact this ⟨k, h⟩
def P1Rel (w : World) (v i : Value) (wr : World) : Prop := ∃ k : Nat, k ≤ 288 ∧ i = .int .i64 (k : Int) ∧ OwnL wr w.heap.size v (I.fixA.take k) ∧ Below w.heap.size w wr
def P2Rel (w : World) (v i : Value) (wr : World) : Prop := ∃ k : Nat, k ≤ 32 ∧ i = .int .i64 (k : Int) ∧ OwnL wr w.heap.size v (I.fixD.take k) ∧ Below w.heap.size w wr
def PlPost (w : World) (e : Ending) (w' : World) : Prop := ∃ sa sb, e = .returned (.tuple #[sa, sb]) ∧ OwnL w' w.heap.size sa I.fixA ∧ OwnL w' w.heap.size sb I.fixD ∧ Below w.heap.size w w'
theorem OwnL.mono {w : World} {B B' : Nat} {sl : Value} {xs : List Int} (h : OwnL w B sl xs) (hB : B' ≤ B) : OwnL w B' sl xs := by
  refine ⟨h.1, ?_⟩
  rcases h.2 with h1 | ⟨g, cap, cur, h1, h2, h3⟩
  · exact Or.inl h1
  · exact Or.inr ⟨g, cap, cur, h1, by omega, h3⟩
set_option maxHeartbeats 2000000 in
set_option maxRecDepth 100000 in
theorem plain_any (w : World) : Calls Tryd.prog 21 #[] w (PlPost w) := by
  go_enter Tryd.func21, Tryd.ntmps21
  go_wp2
  go_loopw [2, 4] (fun v i wr => P1Rel w v i wr) (fun _ i _ => 288 - (intOf i).toNat)
  case atStart => exact ⟨0, Nat.zero_le _, rfl, OwnL.nil _ _, bq_refl w⟩
  case round =>
    obtain ⟨k, hk, rfl, ho, hb⟩ := hrel
    have HB := Lib.hid hb
    by_cases hlt : k < 288
    · have hkl : k < I.fixA.length := by rw [fixA_len]; exact hlt
      have HT : Hid (I.fixA.take (k + 1) = I.fixA.take k ++ List.replicate 1 I.fixA[k]) := Lib.hid (by rw [List.take_succ_eq_append_getElem hkl]; rfl)
      have hat := fixA_at k hlt
      have hlen : (I.fixA.take k).length = k := by rw [List.length_take]; omega
      obtain ⟨v, hv⟩ : ∃ v, v = I.fixA[k] := ⟨_, rfl⟩
      rw [← hv] at hat HT
      obtain ⟨sl3, w3, hrun, HF⟩ := OwnL.more (v := v) (ho.keep (bq_alloc (bq_refl wr) (.cells #[.int .i64 v] 3))) (by have := hb.size; simp; omega) (blk_new wr _ 3 : Blk _ _ (List.replicate 1 (Value.int .i64 v)).toArray 3) (by rw [hlen]; omega) 41
      have HRUN := Lib.hid hrun
      have HW : Hid (Below w.heap.size w w3) := Lib.hid ((bq_alloc hb _).trans HF.out.2)
      clear hrun ho hb hlen hv hkl
      by_cases c1 : 143 < k ∧ k < 256
      · rw [if_pos c1] at hat
        subst hat
        have c2 : 143 < k := c1.1
        have c3 : k < 256 := c1.2
        clear c1
        go_wp2_with (at_builtin; refine wl_append rfl (.tmp 23) (.tmp 25) rfl rfl rfl HRUN.out ?_)
        go_roundw
        case rel => exact ⟨k + 1, by omega, by go_num, by rw [HT.out]; exact HF.out.1, HW.out⟩
        case measure => simp [intOf]; omega
      · rw [if_neg c1] at hat
        by_cases c4 : 255 < k ∧ k < 280
        · rw [if_pos c4] at hat
          subst hat
          have c5 : 255 < k := c4.1
          have c6 : k < 280 := c4.2
          clear c1 c4
          go_wp2_with (at_builtin; refine wl_append rfl (.tmp 23) (.tmp 25) rfl rfl rfl HRUN.out ?_)
          go_roundw
          case rel => exact ⟨k + 1, by omega, by go_num, by rw [HT.out]; exact HF.out.1, HW.out⟩
          case measure => simp [intOf]; omega
        · rw [if_neg c4] at hat
          subst hat
          by_cases c7 : 143 < k
          · have c8 : 279 < k := by omega
            clear c1 c4
            go_wp2_with (at_builtin; refine wl_append rfl (.tmp 23) (.tmp 25) rfl rfl rfl HRUN.out ?_)
            go_roundw
            case rel => exact ⟨k + 1, by omega, by go_num, by rw [HT.out]; exact HF.out.1, HW.out⟩
            case measure => simp [intOf]; omega
          · clear c1 c4
            go_wp2_with (at_builtin; refine wl_append rfl (.tmp 23) (.tmp 25) rfl rfl rfl HRUN.out ?_)
            go_roundw
            case rel => exact ⟨k + 1, by omega, by go_num, by rw [HT.out]; exact HF.out.1, HW.out⟩
            case measure => simp [intOf]; omega
    · rw [List.take_of_length_le (by rw [fixA_len]; omega)] at ho
      have HO := Lib.hid ho
      clear ho hb
      obtain ⟨W1, hW1⟩ : ∃ W1, W1 = wr := ⟨_, rfl⟩
      subst hW1
      have HST : Hid (P2Rel W1 (.slice none 0 0) (.int .i64 0) W1) := Lib.hid ⟨0, Nat.zero_le _, rfl, OwnL.nil _ _, bq_refl W1⟩
      go_wp2
      go_loopw [3, 6] (fun v i wq => P2Rel W1 v i wq) (fun _ i _ => 32 - (intOf i).toNat)
      case atStart => exact HST.out
      case round =>
        obtain ⟨k, hk, rfl, ho, hb⟩ := hrel
        have HB2 := Lib.hid hb
        by_cases hlt : k < 32
        · have hkl : k < I.fixD.length := by rw [fixD_len]; exact hlt
          have HT : Hid (I.fixD.take (k + 1) = I.fixD.take k ++ List.replicate 1 5) := Lib.hid (by
            rw [List.take_succ_eq_append_getElem hkl]
            congr 1
            have e : I.fixD[k] = 5 := List.getElem_replicate _
            rw [e]
            rfl)
          have hlen : (I.fixD.take k).length = k := by rw [List.length_take]; omega
          obtain ⟨sl3, w3, hrun, HF⟩ := OwnL.more (v := 5) (ho.keep (bq_alloc (bq_refl wr) (.cells #[.int .i64 5] 3))) (by have := hb.size; simp; omega) (blk_new wr _ 3 : Blk _ _ (List.replicate 1 (Value.int .i64 5)).toArray 3) (by rw [hlen]; omega) 41
          have HRUN := Lib.hid hrun
          have HW : Hid (Below W1.heap.size W1 w3) := Lib.hid ((bq_alloc hb _).trans HF.out.2)
          clear hrun ho hb hlen hkl
          go_wp2_with (at_builtin; refine wl_append rfl (.tmp 31) (.tmp 32) rfl rfl rfl HRUN.out ?_)
          go_roundw
          case rel => exact ⟨k + 1, by omega, by go_num, by rw [HT.out]; exact HF.out.1, HW.out⟩
          case measure => simp [intOf]; omega
        · rw [List.take_of_length_le (by rw [fixD_len]; omega)] at ho
          have HO2 := Lib.hid ho
          clear ho hb
          go_wp2
          go_ret2
          exact ⟨_, _, rfl, HO.out.keep HB2.out, HO2.out.mono HB.out.size, bq_trans HB.out HB2.out⟩
end Go.Proofs.YtddiccdfeckgaaaDoor
/- Layer 5: the document's state in memory. -/
namespace Go.Proofs.YtddiccdfeckgaaaDoor
open Go.RowKit
set_option maxRecDepth 100000
set_option linter.unusedVariables false
set_option linter.unusedSimpArgs false
/-- bytes of the call's own -/
def RO (w : World) (B : Nat) (sl : Value) (out : List UInt8) : Prop := w.ownsRow B 5 1 sl out.length (byL out)
section
variable {w w' w'' : World} {B : Nat} {sl sl' sl'' : Value} {out o : List UInt8}
theorem RO.keep (h : RO w B sl out) (k : Below w.heap.size w w') : RO w' B sl out :=
  World.ownsRow.kept h (row := none) ⟨k.os, k.tape, k.output, k.size, fun i hi _ => k.block i hi⟩ (by cases hv : sl.ownBlock <;> simp)
theorem RO.turned {g : Nat} (h : RO w B sl out) (k : Turned g w w') (hg : sl.ownBlock ≠ some g) : RO w' B sl out :=
  World.ownsRow.kept h (row := some g) ⟨k.os, k.tape, k.output, by have := k.size; omega, fun i hi hn => k.block i (fun e => hn (by rw [e]))⟩ (Or.inr hg)
theorem RO.len (h : RO w B sl out) : ∃ a c, sl = .slice a out.length c ∧ out.length ≤ c := by
  rcases h.2 with ⟨rfl, h0⟩ | ⟨g, cap, cur, rfl, _, _, h3, _⟩
  · exact ⟨none, 0, by rw [h0], by omega⟩
  · exact ⟨_, cap, rfl, h3⟩
theorem RO.lt (h : RO w B sl out) (k : Nat) (hk : sl.ownBlock = some k) : B ≤ k ∧ k < w.heap.size := World.ownsRow.lt h k hk
theorem RO.nil (w : World) (B : Nat) : RO w B (.slice none 0 0) [] := World.ownsRow_nil w B 5 1
theorem RO.slice (h : RO w B sl out) (h0 : 0 < out.length) :
    ∃ g c, sl = .slice (some ⟨g, 0, none⟩) out.length c ∧ out.length ≤ c ∧ ∀ i (hi : i < out.length), w.cell? ⟨g, i, none⟩ = some (.int .u8 (out[i].toNat : Int)) := by
  obtain ⟨g, c, rfl, _, _⟩ := World.ownsRow.form h h0
  obtain ⟨a, c', e, hc⟩ := h.len
  injection e with _ _ e3
  refine ⟨g, c, rfl, by omega, fun i hi => ?_⟩
  have := World.ownsRow.cells h (g := g) rfl i _ (byL_at out i hi)
  rwa [Addr.add_mid, Nat.zero_add] at this
theorem RO.str (h : RO w B sl out) : (convert 36 9 sl).run Tryd.prog w = .ok (.string (bs out)) w := by
  rcases h.2 with ⟨rfl, h0⟩ | ⟨g, cap, cur, rfl, _, _, h3, _⟩
  · have : out = [] := List.eq_nil_of_length_eq_zero h0
    subst this
    exact run_convert_bytes_nil (P := Tryd.prog) w 36 5 Tryd.underlying36 Tryd.underlying5 0 0 9 Tryd.underlying9
  · refine run_convert_bytes_back (P := Tryd.prog) w 36 9 5 ⟨g, 0, none⟩ cap out Tryd.underlying36 Tryd.underlying5 Tryd.underlying9 (fun j hj => ?_)
    exact World.ownsRow.cells h (g := g) rfl j _ (byL_at out j hj)
/-- one byte behind -/
theorem RO.push {W : World} (h : RO w B sl out) (hB : B ≤ w.heap.size) (hoh : Hid (out.length ≤ 262144)) (hW : Below w.heap.size w W) {g : Nat} (c : UInt8) (hc : W.heap[g]? = some (.cells #[.int .u8 (c.toNat : Int)] 5 (0, 0))) (ty : TypeId) :
    ∃ aa nn cc w', (Builtin.append_ #[36, 36] ty #[sl, .slice (some ⟨g, 0, none⟩) 1 1]).run Tryd.prog W = .ok (.slice aa nn cc) w' ∧
      Hid (RO w' B (.slice aa nn cc) (out ++ [c]) ∧ W.grownBy w' sl.ownBlock ∧ ((Value.slice aa nn cc).ownBlock = sl.ownBlock ∨ (Value.slice aa nn cc).ownBlock = some W.heap.size)) := by
  have ho := hoh.out
  obtain ⟨i0, hi, hz0, hz1, hz2⟩ := info_parts info5
  have u := h.keep hW
  obtain ⟨sl', w', hr, h2, h3, _, h5⟩ := run_append_own_at (P := Tryd.prog) W B 36 ty 5 i0 (.int .u8 0) 1 1 Tryd.underlying36 hi hz0 hz1 hz2 rfl (by decide) sl out.length (byL out) u ⟨g, 0, none⟩ 1 1 [.int .u8 (c.toNat : Int)] rfl
    (World.news_of_block (cs := #[.int .u8 (c.toNat : Int)]) hc) (by simp [Value.oneCell']) (by unfold maxLen; omega) (by omega) (by have := hW.size; omega)
  have h2' : RO w' B sl' (out ++ [c]) := by unfold RO; rw [byL_app, List.length_append]; exact h2
  obtain ⟨aa, cc, rfl, _⟩ := h2'.len
  exact ⟨aa, _, cc, w', hr, Lib.hid ⟨h2', h3, h5⟩⟩
theorem Kp.push {b : Nat} {s0 : Value} (h : Kp b s0 w w' sl) (hg : w'.grownBy w'' sl.ownBlock) (hat : sl'.ownBlock = sl.ownBlock ∨ sl'.ownBlock = some w'.heap.size) : Kp b s0 w w'' sl' := by
  refine ⟨hg.os.trans h.os, hg.tape.trans h.tape, hg.output.trans h.output, Nat.le_trans h.size hg.size, fun i hi h1 h2 => ?_, ?_⟩
  · rw [hg.block i (by have := h.size; omega) (fun e => ?_), h.block i hi h1 h2]
    rcases h.own with e2 | e2
    · exact h2 (by rw [← e2, e])
    · have := e2 i e.symm; omega
  · rcases hat with e | e
    · rw [e]; exact h.own
    · right; intro i hi; rw [e] at hi; injection hi with hi; have := h.size; omega
end
/-- what a step of the document tells -/
def RPost (w : World) (B : Nat) (sl : Value) (R : Except Nat (Nat × List UInt8)) (e : Ending) (w' : World) : Prop :=
  match R with
  | .ok (q, o) => ∃ a n c, e = .returned (.agg (stA (.slice a n c) (q : Int) 0)) ∧ RO w' B (.slice a n c) o ∧ Kp w.heap.size sl w w' (.slice a n c)
  | .error e0 => ∃ a n c A, e = .returned (.agg (stA (.slice a n c) A (e0 : Int))) ∧ e0 ≠ 0 ∧ Below B w w'
/-- a state in block b -/
structure Sx (w : World) (B b : Nat) (sl : Value) (A E : Int) (out : List UInt8) : Prop where
  blk : Blk w b (stA sl A E) 52
  own : RO w B sl out
  far : sl.ownBlock ≠ some b
  base : B ≤ w.heap.size
section
variable {w w' : World} {B b : Nat} {sl : Value} {A E : Int} {out : List UInt8}
theorem Sx.keep (h : Sx w B b sl A E out) (k : Below w.heap.size w w') : Sx w' B b sl A E out := ⟨h.blk.keep k, h.own.keep k, h.far, Nat.le_trans h.base k.size⟩
theorem Sx.turned {g : Nat} (h : Sx w B b sl A E out) (k : Turned g w w') (h1 : g ≠ b) (h2 : sl.ownBlock ≠ some g) : Sx w' B b sl A E out := ⟨k.blk h.blk (Ne.symm h1), h.own.turned k h2, h.far, by have := h.base; have := k.size; omega⟩
/-- a state that is laid anew -/
theorem Sx.lay {A' E' : Int} (h : Sx w B b sl A E out) (k : Turned b w w') (hB : Blk w' b (stA sl A' E') 52) : Sx w' B b sl A' E' out := ⟨hB, h.own.turned k h.far, h.far, by have := h.base; have := k.size; omega⟩
theorem Sx.set1 (h : Sx w B b sl A E out) (A' : Int) : Sx (w.setCell ⟨b, 1, none⟩ (.int .i64 A')) B b sl A' E out := h.lay (turned_set w ⟨b, 1, none⟩ _) (h.blk.st1 A')
theorem Sx.set2 (h : Sx w B b sl A E out) (E' : Int) : Sx (w.setCell ⟨b, 2, none⟩ (.int .i64 E')) B b sl A E' out := h.lay (turned_set w ⟨b, 2, none⟩ _) (h.blk.st2 E')
theorem Sx.atOf (h : Sx w B b sl (A : Int) E out) : atOf w b = A.toNat := by unfold Go.Proofs.YtddiccdfeckgaaaDoor.atOf; rw [h.blk.st.2.1]; simp [intOf]
end
end Go.Proofs.YtddiccdfeckgaaaDoor
/- Layer 5: the document's stored block. -/
namespace Go.Proofs.YtddiccdfeckgaaaDoor
open Go.RowKit
set_option maxRecDepth 100000
set_option linter.unusedVariables false
set_option linter.unusedSimpArgs false
theorem I.numS_zero {s : ByteArray} {n A E v A' E' : Nat} (h : I.numS s n A E = (v, A', E')) (h0 : E' = 0) : E = 0 ∧ I.num s A n = .ok (v, A') := by
  unfold I.numS at h
  split at h
  · rename_i he
    injection h with h1 h2; injection h2 with h2 h3
    omega
  · rename_i he
    split at h
    · rename_i hx
      injection h with h1 h2; injection h2 with h2 h3
      subst h1 h2
      exact ⟨by omega, hx⟩
    · rename_i hx
      have := (I.num_err hx).1
      injection h with h1 h2; injection h2 with h2 h3
      omega
theorem I.numS_err {s : ByteArray} {n A v A' E' : Nat} (h : I.numS s n A 0 = (v, A', E')) (h0 : E' ≠ 0) : I.num s A n = .error E' := by
  unfold I.numS at h
  rw [if_neg (fun h => h rfl)] at h
  split at h
  · injection h with h1 h2; injection h2 with h2 h3
    omega
  · rename_i hx
    injection h with h1 h2; injection h2 with h2 h3
    subst h3
    exact hx
theorem I.numS_keep {s : ByteArray} {n A E v A' E' : Nat} (h : I.numS s n A E = (v, A', E')) (h0 : E ≠ 0) : E' = E := by
  unfold I.numS at h
  rw [if_pos h0] at h
  injection h with h1 h2; injection h2 with h2 h3
  exact h3.symm
/-- the bits of a number -/
theorem nb_bit (s : ByteArray) (p : Nat) : ∀ n i, i < n → nb s p n / B.P2 i % 2 = btv s (p + i)
  | 0, i, h => absurd h (Nat.not_lt_zero _)
  | n + 1, i, h => by
    rw [nb]
    have hb := btv_lt s (p + n)
    have hn := nb_lt s p n
    by_cases e : i = n
    · subst e
      rw [Nat.add_mul_div_right _ _ (B.P2_pos i), Nat.div_eq_of_lt hn, Nat.zero_add, Nat.mod_eq_of_lt hb]
    · have ih := nb_bit s p n i (by omega)
      have hs : B.P2 n = B.P2 i * (2 * B.P2 (n - i - 1)) := by rw [← B.P2_succ, ← B.P2_add]; congr 1; omega
      rw [hs, show nb s p n + btv s (p + n) * (B.P2 i * (2 * B.P2 (n - i - 1))) = nb s p n + B.P2 i * (2 * (B.P2 (n - i - 1) * btv s (p + n))) by
        rw [Nat.mul_comm (btv s _), Nat.mul_assoc, Nat.mul_assoc], Nat.add_mul_div_left _ _ (B.P2_pos i), Nat.add_mul_mod_self_left, ih]
theorem turned_bit (n i : Nat) (h : n < 65536) (hi : i < 16) : (65535 - n) / B.P2 i % 2 ≠ n / B.P2 i % 2 := by
  have e1 := Nat.testBit_two_pow_sub_succ (x := n) (n := 16) (by omega) i
  rw [show 2 ^ 16 - (n + 1) = 65535 - n by omega] at e1
  have t : ∀ m : Nat, m.testBit i = decide (m / B.P2 i % 2 = 1) := fun m => by
    unfold B.P2
    rw [Nat.testBit_eq_decide_div_mod_eq]
  rw [t, t] at e1
  simp [hi] at e1
  intro e
  have h1 := Nat.mod_two_eq_zero_or_one (n / B.P2 i)
  rcases h1 with h1 | h1
  · rw [h1] at e
    rw [e, h1] at e1
    simp at e1
  · rw [h1] at e
    rw [e, h1] at e1
    simp at e1
theorem bits_turned {s : ByteArray} {p n m : Nat} (h1 : nb s p 16 = n) (h2 : nb s (p + 16) 16 = m) (h : n + m = 65535) (i : Nat) (hi : i < 16) : btv s (p + i) ≠ btv s (p + 16 + i) := by
  have a := nb_bit s p 16 i hi
  have b := nb_bit s (p + 16) 16 i hi
  rw [← a, ← b, h1, h2, show m = 65535 - n by omega]
  exact Ne.symm (turned_bit n i (by omega) hi)
theorem rnumber_at {s : ByteArray} {A E n v A' E' : Nat} (hr : I.numS s n A E = (v, A', E')) (sa : Option Addr) (sn sc : Nat) (w : World) (hs : s.size ≤ 1048576) (hA : A ≤ 16777216) (hn : n ≤ 16) :
    Calls Tryd.prog 19 #[.string s, .agg (stA (.slice sa sn sc) (A : Int) (E : Int)), .int .i64 (n : Int)] w fun e w' => e = .returned (.tuple #[.int .i64 (v : Int), .agg (stA (.slice sa sn sc) (A' : Int) (E' : Int))]) ∧ Below w.heap.size w w' := by
  have h := rnumber_any s A E n sa sn sc w hs hA hn
  rw [hr] at h
  exact h
theorem rsymbol_at {zs : List Int} {s : ByteArray} {A E v A' E' : Nat} (hr : I.symS zs s A E = (v, A', E')) (la : Option Addr) (lb lo lc : Nat) (sa : Option Addr) (sn sc : Nat) (w : World) (hs : s.size ≤ 1048576) (hA : A ≤ 16777216) (hi : Hid (Ints w zs la lb lo)) (he : Hid (errN zs = 0)) :
    Calls Tryd.prog 47 #[.string s, .agg (stA (.slice sa sn sc) (A : Int) (E : Int)), .slice la zs.length lc] w fun e w' => e = .returned (.tuple #[.int .i64 (v : Int), .agg (stA (.slice sa sn sc) (A' : Int) (E' : Int))]) ∧ Below w.heap.size w w' := by
  have h := rsymbol_any zs s A E la lb lo lc sa sn sc w hs hA hi he
  rw [hr] at h
  exact h
theorem I.numS_at {s : ByteArray} {n A E v A' E' : Nat} (hr : I.numS s n A E = (v, A', E')) (hs : s.size ≤ 1048576) (hn : n ≤ 16) (hA : A ≤ 16777216) : v < 65536 ∧ A' ≤ 16777216 := by
  have := I.numS_bd s n A E hs hn hA
  rw [hr] at this
  exact this
/-- one byte more in a state -/
structure Pu (w0 : World) (b4 : Nat) (sl sl' : Value) (w' : World) : Prop where
  kp : ∀ {w : World} {b : Nat} {s0 : Value}, Kp b s0 w w0 sl → w.heap.size ≤ b4 → Kp b s0 w w' sl'
  blk : ∀ {g : Nat} {cs : Array Value} {t : TypeId}, Blk w0 g cs t → g ≠ b4 → sl.ownBlock ≠ some g → Blk w' g cs t ∧ sl'.ownBlock ≠ some g
theorem Sx.push {w W : World} {B b4 : Nat} {sl : Value} {A E : Int} {out : List UInt8} (h : Sx w B b4 sl A E out) (hoh : Hid (out.length ≤ 262144)) (hW : Below w.heap.size w W) {g : Nat} (c : UInt8) (hc : W.heap[g]? = some (.cells #[.int .u8 (c.toNat : Int)] 5 (0, 0))) (ty : TypeId) :
    ∃ aa nn cc w', (Builtin.append_ #[36, 36] ty #[sl, .slice (some ⟨g, 0, none⟩) 1 1]).run Tryd.prog W = .ok (.slice aa nn cc) w' ∧ w'.cell? ⟨b4, 0, none⟩ = some sl ∧ w'.frozen? ⟨b4, 0, none⟩ = false ∧
      Hid (Sx (w'.setCell ⟨b4, 0, none⟩ (.slice aa nn cc)) B b4 (.slice aa nn cc) A E (out ++ [c]) ∧ Pu w b4 sl (.slice aa nn cc) (w'.setCell ⟨b4, 0, none⟩ (.slice aa nn cc))) := by
  obtain ⟨aa, nn, cc, w', hr, HF⟩ := h.own.push h.base hoh hW c hc ty
  obtain ⟨h1, hg, hat⟩ := HF.out
  have l4 := h.blk.lt
  have z1 := hW.size
  have hb4 : Blk w' b4 (stA sl A E) 52 := by
    unfold Blk; rw [hg.block b4 (by omega) (Ne.symm h.far)]; exact h.blk.keep hW
  have far : ∀ k, k < w.heap.size → sl.ownBlock ≠ some k → (Value.slice aa nn cc).ownBlock ≠ some k := fun k hk hn => by
    rcases hat with e | e
    · rw [e]; exact hn
    · rw [e]; intro e2; injection e2 with e2; omega
  have f4 := far b4 l4 h.far
  have hT := turned_set w' ⟨b4, 0, none⟩ (.slice aa nn cc)
  refine ⟨aa, nn, cc, w', hr, hb4.st.1, hb4.frozen 0, Lib.hid ⟨⟨hb4.st0 _, h1.turned hT f4, f4, ?_⟩, ⟨fun k hl => ?_, fun hB h2 h3 => ?_⟩⟩⟩
  · have := h.base; have := hg.size; have := hT.size; omega
  · exact ((k.trans (Kp.of_below _ _ hW)).push hg hat).turned hT hl
  · have lg := hB.lt
    refine ⟨hT.blk ?_ h2, far _ lg h3⟩
    unfold Blk; rw [hg.block _ (by omega) (Ne.symm h3)]; exact hB.keep hW
end Go.Proofs.YtddiccdfeckgaaaDoor
