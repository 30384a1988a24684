import Derived.Test.YtmbnmfhfeaagaaaDoorZI
/- Layer 5: a law: stored blocks behind one another. -/
namespace Go.Proofs.YtmbnmfhfeaagaaaDoor
open Go.RowKit
set_option linter.unusedVariables false
set_option linter.unusedSimpArgs false
/-- stored blocks of these bytes, the last one marked -/
def encS : List (List UInt8) → List UInt8
  | [] => []
  | b :: r => sbL (if r = [] then 1 else 0) b.length ++ (b ++ encS r)
theorem I.blocks_enc {X : ByteArray} {m : Nat} : ∀ (l : List (List UInt8)) (a out : List UInt8), l ≠ [] → X.data.toList = a ++ encS l → (∀ b ∈ l, b.length ≤ 65535) → out.length + l.flatten.length ≤ m →
    I.blocks X m (8 * a.length) out = .ok (8 * (a.length + (encS l).length), out ++ l.flatten)
  | [], a, out, h0, _, _, _ => absurd rfl h0
  | b :: r, a, out, _, hX, hb, hm => by
    have hb1 := hb b (by simp)
    rw [List.flatten_cons, List.length_append] at hm
    have hX' : X.data.toList = a ++ (sbL (if r = [] then 1 else 0) b.length ++ (b ++ encS r)) := hX
    have h1 := I.block_at (most := m) (out := out) hX' (by split <;> omega) hb1 (by omega)
    have e5 : ∀ f n, (sbL f n).length = 5 := fun f n => rfl
    by_cases hr : r = []
    · subst hr
      rw [if_pos rfl] at h1
      rw [I.blocks_end h1]
      simp [encS, e5]
      omega
    · rw [if_neg hr] at h1
      rw [I.blocks_more h1 (by omega)]
      have ih := I.blocks_enc (X := X) (m := m) r (a ++ (sbL 0 b.length ++ b)) (out ++ b) hr (by rw [hX', if_neg hr]; simp [List.append_assoc]) (fun c hc => hb c (by simp [hc])) (by rw [List.length_append]; omega)
      rw [show 8 * (a.length + 5 + b.length) = 8 * (a ++ (sbL 0 b.length ++ b)).length by rw [List.length_append, List.length_append, e5]; omega, ih]
      simp only [List.length_append, e5, encS, if_neg hr, List.flatten_cons, List.append_assoc]
      congr 2
      omega
theorem encS_step (l : List (List UInt8)) (k : Nat) (h : k < l.length) : encS (l.drop k) = sbL (if k + 1 = l.length then 1 else 0) l[k].length ++ (l[k] ++ encS (l.drop (k + 1))) := by
  rw [List.drop_eq_getElem_cons h, encS]
  congr 2
  by_cases c : k + 1 = l.length
  · rw [if_pos c, if_pos (List.drop_eq_nil_of_le (by omega))]
  · rw [if_neg c, if_neg (fun e => by have := congrArg List.length e; simp at this; omega)]
theorem cells5 {a b c d e a' b' c' d' e' : Int} (h0 : a = a') (h1 : b = b') (h2 : c = c') (h3 : d = d') (h4 : e = e') : (#[.int .u8 a, .int .u8 b, .int .u8 c, .int .u8 d, .int .u8 e] : Array Value) = #[.int .u8 a', .int .u8 b', .int .u8 c', .int .u8 d', .int .u8 e'] := by rw [h0, h1, h2, h3, h4]
theorem sb_cells (f n : Nat) (hf : f < 2) (hn : n ≤ 4096) : (#[.int .u8 (f : Int), .int .u8 ((n : Int) % 256), .int .u8 ((n : Int) / 256), .int .u8 ((bits .xor .i64 (if IntKind.i64.signed = true then -1 else 9223372036854775807) (n : Int)) % 256), .int .u8 ((bits .xor .i64 (if IntKind.i64.signed = true then -1 else 9223372036854775807) (n : Int)) / 256 % 256)] : Array Value) = byA (sbL f n) := by
  unfold byA sbL
  simp only [List.map_cons, List.map_nil]
  rw [show (bits .xor .i64 (if IntKind.i64.signed = true then -1 else 9223372036854775807) (n : Int)) = -1 - (n : Int) from xnot n (by omega)]
  rw [u8_nat _ (by omega), u8_nat _ (by omega), u8_nat _ (by omega), u8_nat _ (by omega), u8_nat _ (by omega)]
  exact cells5 rfl (by omega) (by omega) (by omega) (by omega)
def BkRel (w : World) (l : List (List UInt8)) (a b i : Value) (wr : World) : Prop :=
  ∃ (k : Nat) (S T : ByteArray), k ≤ l.length ∧ i = .int .i64 (k : Int) ∧ a = .string S ∧ b = .string T ∧ Hid (S.data.toList ++ encS (l.drop k) = encS l) ∧ Hid (T.data.toList ++ (l.drop k).flatten = l.flatten) ∧ S.size ≤ 1029 * k ∧ T.size ≤ 1024 * k ∧ Hid (∀ j (h : j < l.length), j < k → l[j].length ≤ 1024) ∧ Hid (Below w.heap.size w wr)
set_option maxHeartbeats 2000000 in
set_option maxRecDepth 100000 in
theorem inflateBlocks_cells (L : List ByteArray) (g off cap : Nat) (w : World) (hl0 : 0 < L.length) (hlm : L.length ≤ maxLen) (hcell : ∀ i (h : i < L.length), w.cell? ⟨g, off + i, none⟩ = some (.string L[i])) (hsz : ∀ i (h : i < L.length), L[i].size ≤ maxLen) (hg : Gl w) :
    Calls Tryd.prog 7 #[.slice (some ⟨g, off, none⟩) L.length cap] w fun e w' => e = .returned (.bool true) ∧ Below w.heap.size w w' := by
  unfold maxLen at hlm
  have HAW := Lib.hid (fun W (h : Gl W) => awake_any W h)
  have HG := Lib.hid hg
  have HCE := Lib.hid hcell
  have HSZ := Lib.hid hsz
  obtain ⟨N, hN⟩ : ∃ N, N = L.length := ⟨_, rfl⟩
  have HN := Lib.hid hN
  rw [← hN] at hl0 hlm ⊢
  clear hg hcell hsz hN
  have q0 : ((N : Int) == 0) = false := by rw [beq_eq_false_iff_ne]; omega
  by_cases c1 : 20 < N
  · have q1 : decide (20 < (N : Int)) = true := by rw [decide_eq_true_iff]; omega
    go_enter Tryd.func7, Tryd.ntmps7
    go_wp2_with (go_at_call 8; refine (HAW.out _ HG.out).mono ?_; rintro e w1 ⟨rfl, hb1⟩)
    go_ret
    exact ⟨rfl, hb1⟩
  have q1 : decide (20 < (N : Int)) = false := by rw [decide_eq_false_iff_not]; omega
  have hN20 : N ≤ 20 := by omega
  obtain ⟨l, hl⟩ : ∃ l, l = L.map fun b => b.data.toList := ⟨_, rfl⟩
  have hll : l.length = N := by rw [hl, List.length_map, HN.out]
  have HLL := Lib.hid hll
  have HAT : Hid (∀ i (h : i < L.length) (h' : i < l.length), l[i] = L[i].data.toList) := Lib.hid (fun i h h' => by subst hl; simp)
  have HST : Hid (BkRel w l (.string ⟨#[]⟩) (.string ⟨#[]⟩) (.int .i64 0) w) := Lib.hid ⟨0, ⟨#[]⟩, ⟨#[]⟩, Nat.zero_le _, rfl, rfl, rfl, Lib.hid rfl, Lib.hid rfl, Nat.zero_le _, Nat.zero_le _, Lib.hid (fun j _ h => absurd h (Nat.not_lt_zero _)), Lib.hid (bq_refl w)⟩
  clear hlm c1 hl hll
  go_enter Tryd.func7, Tryd.ntmps7
  go_wp2
  go_loopw [3, 4, 23] (fun a b i wr => BkRel w l a b i wr) (fun _ _ i _ => N - (intOf i).toNat)
  case atStart => exact HST.out
  case round =>
    obtain ⟨k, S, T, hk, rfl, rfl, rfl, he1, he2, hs1, hs2, hsm, hbl⟩ := hrel
    rw [HLL.out] at hk
    clear HST
    have HGr := Lib.hid (HG.out.keep hbl.out HG.out.four)
    have hs3 : S.size ≤ 20580 := by omega
    have hs4 : T.size ≤ 20480 := by omega
    by_cases hlt : k < N
    · have hkL : k < L.length := by rw [← HN.out]; exact hlt
      have hkl : k < l.length := by rw [HLL.out]; exact hlt
      have hc0 := HCE.out k hkL
      have hc : wr.cell? ⟨g, off + k, none⟩ = some (.string L[k]) := by rw [hbl.out.cell (p := ⟨g, off + k, none⟩) (block_lt_of_cell hc0)]; exact hc0
      have hbz := HSZ.out k hkL
      unfold maxLen at hbz
      have hlk := HAT.out k hkL hkl
      have hen := encS_step l k hkl
      have hdr := List.drop_eq_getElem_cons hkl
      obtain ⟨b, hb⟩ : ∃ b, b = L[k] := ⟨_, rfl⟩
      rw [← hb] at hc hbz hlk
      rw [hlk] at hen hdr
      have hbl2 : b.data.toList.length = b.size := by simp
      rw [hbl2] at hen
      by_cases hbig : 1024 < b.size
      · have q2 : decide (1024 < (b.size : Int)) = true := by rw [decide_eq_true_iff]; omega
        clear hen hdr hlk hb hc0 hbl2
        go_wp2_with (go_at_call 8; refine (HAW.out _ HGr.out).mono ?_; rintro e w1 ⟨rfl, hb1⟩)
        go_ret
        exact ⟨rfl, bq_trans hbl.out hb1⟩
      · have q2 : decide (1024 < (b.size : Int)) = false := by rw [decide_eq_false_iff_not]; omega
        have hb4 : b.size ≤ 1024 := by omega
        have HSM : Hid (∀ j (h : j < l.length), j < k + 1 → l[j].length ≤ 1024) := Lib.hid (fun j h hj => by
          by_cases e : j = k
          · subst e; rw [hlk, hbl2]; exact hb4
          · exact hsm.out j h (by omega))
        have HEN := Lib.hid hen
        have HDR := Lib.hid hdr
        by_cases hlast : k + 1 = N
        · have q3 : ((k : Int) == (N : Int) - 1) = true := by rw [beq_iff_eq]; omega
          have HC := Lib.hid (sb_cells 1 b.size (by omega) (by omega))
          clear hen hdr hlk hb hc0 hbl2
          go_wp2_with (refine wl_str (.tmp 53) rfl rfl _ _ _ rfl _ (blk_new _ _ _) _ HC.out rfl ?_; intro U HU hU5)
          go_roundw
          case rel => exact ⟨k + 1, S ++ (U ++ b), T ++ b, by rw [HLL.out]; omega, by go_num, rfl, rfl, Lib.hid (by
              rw [← he1.out, HEN.out, HLL.out, if_pos hlast, ByteArray.data_append, ByteArray.data_append, HU.out]; simp [bs, List.append_assoc]), Lib.hid (by
              rw [← he2.out, HDR.out, ByteArray.data_append]; simp [List.append_assoc]), by rw [ByteArray.size_append, ByteArray.size_append]; omega, by rw [ByteArray.size_append]; omega, HSM, Lib.hid (bq_alloc hbl.out _)⟩
          case measure => simp [intOf]; omega
        · have q3 : ((k : Int) == (N : Int) - 1) = false := by rw [beq_eq_false_iff_ne]; omega
          have HC := Lib.hid (sb_cells 0 b.size (by omega) (by omega))
          clear hen hdr hlk hb hc0 hbl2
          go_wp2_with (refine wl_str (.tmp 53) rfl rfl _ _ _ rfl _ (blk_new _ _ _) _ HC.out rfl ?_; intro U HU hU5)
          go_roundw
          case rel => exact ⟨k + 1, S ++ (U ++ b), T ++ b, by rw [HLL.out]; omega, by go_num, rfl, rfl, Lib.hid (by
              rw [← he1.out, HEN.out, HLL.out, if_neg hlast, ByteArray.data_append, ByteArray.data_append, HU.out]; simp [bs, List.append_assoc]), Lib.hid (by
              rw [← he2.out, HDR.out, ByteArray.data_append]; simp [List.append_assoc]), by rw [ByteArray.size_append, ByteArray.size_append]; omega, by rw [ByteArray.size_append]; omega, HSM, Lib.hid (bq_alloc hbl.out _)⟩
          case measure => simp [intOf]; omega
    · obtain rfl : k = N := by omega
      have hd : l.drop k = [] := List.drop_eq_nil_of_le (by rw [HLL.out]; omega)
      have e1 := he1.out
      have e2 := he2.out
      rw [hd, encS, List.append_nil] at e1
      rw [hd, List.flatten_nil, List.append_nil] at e2
      have hsS : S.size = (encS l).length := by rw [← e1]; simp
      have hTl : l.flatten = T.data.toList := e2.symm
      have hTs : T.data.toList.length = T.size := by simp
      have hne : l ≠ [] := fun e => by have := HLL.out; rw [e] at this; simp at this; omega
      have hbk := I.blocks_enc (X := S) (m := 32768) l [] [] hne (by rw [e1]; rfl) (fun b hb => by
        obtain ⟨j, hj, rfl⟩ := List.getElem_of_mem hb
        have := hsm.out j hj (by rw [← HLL.out]; exact hj)
        omega) (by rw [hTl, hTs]; simp; omega)
      have hraw := I.raw_end (by omega) hbk
      have HR := Lib.hid (raw_any S 32768 wr (by omega) HGr.out)
      rw [show ((32768 : Nat) : Int) = 32768 by rfl] at hraw
      rw [rawR_ok hraw] at HR
      unfold rawT at HR
      rw [List.nil_append, hTl, str_id, ← hsS, show (8 * (([] : List UInt8).length + S.size) + 7) / 8 = S.size by simp; omega] at HR
      clear hd e1 e2 hsS hTl hTs hne hbk hraw
      go_wp2_with (first
        | (go_at_call 9; refine HR.out.mono ?_; rintro e w1 ⟨rfl, hb1⟩)
        | (go_at_call 8; refine (HAW.out _ (HGr.out.keep hb1 HGr.out.four)).mono ?_; rintro e w2 ⟨rfl, hb2⟩))
      go_ret
      exact ⟨rfl, bq_trans (bq_trans hbl.out hb1) hb2⟩
theorem inflateBlocks_nil (sa : Option Addr) (cap : Nat) (w : World) (hg : Gl w) :
    Calls Tryd.prog 7 #[.slice sa 0 cap] w fun e w' => e = .returned (.bool true) ∧ Below w.heap.size w w' := by
  have HAW := Lib.hid (fun W (h : Gl W) => awake_any W h)
  have HG := Lib.hid hg
  clear hg
  go_enter Tryd.func7, Tryd.ntmps7
  go_wp2_with (go_at_call 8; refine (HAW.out _ HG.out).mono ?_; rintro e w1 ⟨rfl, hb1⟩)
  go_ret
  exact ⟨rfl, hb1⟩
theorem inflateBlocks_strs (Sx : Nat → ByteArray) (a : Addr) (len cap : Nat) (w : World) (hl : len ≤ cap) (hm : cap ≤ maxLen) (hc : ∀ i, i < len → w.cell? (a.add i) = some (.string (Sx i)) ∧ (Sx i).size ≤ maxLen) (hg : Gl w) :
    Calls Tryd.prog 7 #[.slice (some a) len cap] w fun e w' => e = .returned (.bool true) ∧ Below w.heap.size w w' := by
  by_cases h0 : len = 0
  · subst h0
    exact inflateBlocks_nil (some a) cap w hg
  · obtain ⟨b, o, spot⟩ := a
    have hspot : spot = none := by simpa [Addr.add] using World.cell?_spot (hc 0 (by omega)).1
    subst hspot
    have hL : ((List.range len).map Sx).length = len := by simp
    have h := inflateBlocks_cells ((List.range len).map Sx) b o cap w (by omega) (by omega) (fun i hi => by
      rw [hL] at hi
      have := (hc i hi).1
      rw [Addr.add_mid] at this
      simpa using this) (fun i hi => by
      rw [hL] at hi
      simpa using (hc i hi).2) hg
    rw [hL] at h
    exact h
end Go.Proofs.YtmbnmfhfeaagaaaDoor
