import Derived.Test.YtffcfcgkpebdoaaZV0
import Derived.Test.YtffcfcgkpebdoaaZV1
namespace Go.Proofs.Ytffcfcgkpebdoaa
open Go.RowKit
set_option linter.unusedVariables false
set_option linter.unusedSimpArgs false
set_option maxRecDepth 100000
theorem str_info12 : (Try.prog.info? 9).map (fun i => (i.zero, i.size, decide (i.bytes ≤ 1000))) = some (some (.string ⟨#[]⟩), 1, true) := by kernel_rfl
theorem str1_run (s : ByteArray) (w : World) : (Instr.buildSlice 58 1 [(0, .string s)].toArray).run Try.prog w = .ok (.slice (some ⟨w.heap.size, 0, none⟩) 1 1) (w.alloc (.cells #[.string s] 9)) := by
  obtain ⟨ie, h1, h2⟩ := Option.map_eq_some_iff.1 str_info12
  have hz := congrArg (·.1) h2
  have hs : ie.size = 1 := congrArg (·.2.1) h2
  refine run_buildSlice w 58 9 1 _ _ ie _ Try.underlying58 h1 hz (by rw [hs]; decide) (by rw [hs]; decide) ?_
  rw [hs]; kernel_rfl
def joinOk (ts : List (Int × ByteArray)) : Prop := ts.length ≤ 256 ∧ ∀ t ∈ ts, 1 ≤ t.1 ∧ t.1 ≤ 1023
instance (ts : List (Int × ByteArray)) : Decidable (joinOk ts) := by unfold joinOk; infer_instance
def joinV (ts : List (Int × ByteArray)) : Value := if joinOk ts then .tuple #[.string (bs (TG.listB (toL ts))), .int .i64 0] else .tuple #[.string ⟨#[]⟩, .int .i64 1]
theorem joinV_no {ts : List (Int × ByteArray)} (h : ¬ joinOk ts) : joinV ts = .tuple #[.string ⟨#[]⟩, .int .i64 1] := if_neg h
theorem joinV_yes {ts : List (Int × ByteArray)} (h : joinOk ts) : joinV ts = .tuple #[.string (bs (TG.listB (toL ts))), .int .i64 0] := if_pos h
def piece (t : Int × ByteArray) : ByteArray := bs (TG.one t.1.toNat t.2.data.toList)
def strC (xs : List ByteArray) : List (List Value) := xs.map fun x => [Value.string x]
theorem strC_snoc (xs : List ByteArray) (x : ByteArray) : strC (xs ++ [x]) = strC xs ++ [[Value.string x]] := by simp [strC]
theorem flat_app (xs ys : List ByteArray) : ((xs ++ ys).map (·.data.toList)).flatten = (xs.map (·.data.toList)).flatten ++ (ys.map (·.data.toList)).flatten := by simp
theorem join_flat (xs : List (List UInt8)) : Lib.join xs [] = xs.flatten := by
  cases xs with
  | nil => rfl
  | cons x r => rw [Lib.join_cons, List.flatten_cons]; simp [Lib.joinTail]
theorem pieces_flat (ts : List (Int × ByteArray)) : ((ts.map piece).map (·.data.toList)).flatten = TG.tagsB (toL ts) := by
  induction ts with
  | nil => rfl
  | cons t ts ih =>
    show (piece t).data.toList ++ ((ts.map piece).map (·.data.toList)).flatten = _
    rw [ih]
    rfl
theorem tagsB_le (ts : List (Int × ByteArray)) (h : ∀ t ∈ ts, t.2.size < 4294967296) : (TG.tagsB (toL ts)).length ≤ ts.length * 4294967302 := by
  induction ts with
  | nil => exact Nat.zero_le _
  | cons t ts ih =>
    show (TG.one t.1.toNat t.2.data.toList ++ TG.tagsB (toL ts)).length ≤ _
    have h1 := ih fun u hu => h u (by simp [hu])
    have h2 := h t (by simp)
    rw [List.length_append, TG.one_len, bytes_length, List.length_cons, Nat.add_mul]
    split <;> omega
theorem sjoin12 (ts : List (Int × ByteArray)) (hn : ts.length ≤ 256) (hs : ∀ t ∈ ts, t.2.size < 4294967296) (g c : Nat) (W : World) (hg : g < W.heap.size) (hc : (ts.map piece ++ [bs [0, 0]]).length ≤ c)
    (hcells : ∀ (j : Nat) x, (ts.map piece ++ [bs [0, 0]])[j]? = some x → W.cell? ⟨g, 0 + j, none⟩ = some (.string x)) :
    Calls Try.prog 23 #[.slice (some ⟨g, 0, none⟩) (ts.map piece ++ [bs [0, 0]]).length c, .string ⟨#[]⟩] W fun e w' => e = .returned (.string (bs (TG.listB (toL ts)))) ∧ Below W.heap.size W w' := by
  have e : Lib.join ((ts.map piece ++ [bs [0, 0]]).map (·.data.toList)) ((⟨#[]⟩ : ByteArray).data.toList) = TG.listB (toL ts) := by
    rw [show (⟨#[]⟩ : ByteArray).data.toList = [] from rfl, join_flat, flat_app, pieces_flat]
    rfl
  have hl : (TG.listB (toL ts)).length ≤ 140737488355328 := by
    have := tagsB_le ts hs
    have h2 : ts.length * 4294967302 ≤ 256 * 4294967302 := Nat.mul_le_mul_right _ hn
    rw [TG.listB, List.length_append]
    simp only [List.length_cons, List.length_nil]
    omega
  have h := sjoin_some g 0 c (ts.map piece ++ [bs [0, 0]]) ⟨#[]⟩ W hcells hg (by simp; omega) hc (by rw [e]; exact hl)
  rw [e] at h
  exact h
def JRel (w : World) (ts : List (Int × ByteArray)) (v i : Value) (wr : World) : Prop :=
  ∃ k : Nat, k ≤ ts.length ∧ i = .int .i64 k ∧ (∀ j t, j < k → ts[j]? = some t → 1 ≤ t.1 ∧ t.1 ≤ 1023) ∧ OwnC wr w.heap.size 9 1 v (strC ((ts.take k).map piece)) ∧ Below w.heap.size w wr
theorem join12_long (ts : List (Int × ByteArray)) (a : Option Addr) (c : Nat) (w : World) (hl : ts.length ≤ 9223372036854775807) (h : 256 < ts.length) : Calls Try.prog 12 #[.slice a ts.length c] w fun e w' => e = .returned (joinV ts) ∧ Below w.heap.size w w' := by
  have HJ := Lib.hid (joinV_no (ts := ts) (fun hj => absurd hj.1 (by omega)))
  have h2 : (256 : Int) < (ts.length : Int) := by omega
  generalize ts.length = n at *
  go_enter Try.func12, Try.ntmps12
  go_wp2
  go_ret2
  exact ⟨by rw [HJ.out]; rfl, bq_refl w⟩
set_option maxHeartbeats 1000000 in
theorem join12_loop (ts : List (Int × ByteArray)) (v : Value) (w : World) (hv : Tags w v ts) (hn : ts.length ≤ 256) (hs : ∀ t ∈ ts, t.2.size < 4294967296) : Calls Try.prog 12 #[v] w fun e w' => e = .returned (joinV ts) ∧ Below w.heap.size w w' := by
  obtain ⟨a, c0, b, o, rfl, hl, hel⟩ := hv.at
  have HS := Lib.hid hs
  clear hl hs
  have HEL := Lib.hid hel
  have HV0 : Hid ((0 : Int) ≤ (ts.length : Int) + 1 ∧ (ts.length : Int) + 1 ≤ 1000000) := Lib.hid (by omega)
  have hn2 : (ts.length : Int) ≤ 256 := by omega
  have HN := Lib.hid hn
  clear hel hv hn
  go_enter Try.func12, Try.ntmps12
  go_wp2_with (first
    | (refine wl_room 58 9 1 (.string ⟨#[]⟩) Try.underlying58 str_info12 _ _ rfl rfl ((ts.length : Int) + 1) rfl rfl HV0.out.1 HV0.out.2 (by decide) ?_; intro W1 b1 O1 H1; clear HV0))
  go_loopw [4, 20] (fun v i wr => JRel w ts v i wr) (fun _ i _ => ts.length - (intOf i).toNat)
  case atStart => exact ⟨0, by omega, rfl, fun j t h2 _ => absurd h2 (by omega), O1, H1⟩
  case round =>
    obtain ⟨k, hk, rfl, hall, hown, hbel⟩ := hrel
    clear O1 H1
    by_cases hlt : k < ts.length
    · obtain ⟨⟨c, s⟩, ht⟩ : ∃ t, ts[k]? = some t := ⟨_, List.getElem?_eq_getElem hlt⟩
      obtain ⟨ha, hb, hi64, hrg0⟩ := HEL.out k c s ht
      have HALL := Lib.hid hall
      have HT := Lib.hid (take_snoc ts k _ ht)
      have HK := Lib.hid ht
      have HMEM := Lib.hid (List.mem_of_getElem? ht)
      have HSZ := Lib.hid (HS.out _ HMEM.out)
      have HLT := Lib.hid hlt
      have hrg := rangeAt_keep hrg0 (Below.mono hbel (Nat.le_refl _))
      clear ht hrg0
      subst ha
      have OM := hown.m
      have SM : SzM wr w.heap.size wr.heap.size := ⟨Nat.le_refl _⟩
      have hsz : w.heap.size ≤ wr.heap.size := hbel.size
      have HB := Lib.hid hbel
      have i2 : (k : Int) < (ts.length : Int) := by omega
      have i1 : (0 : Int) ≤ (k : Int) := by omega
      clear hall hown hbel hi64 HEL HS
      obtain ⟨PS, hPS⟩ : ∃ PS, PS = (ts.take k).map piece := ⟨_, rfl⟩
      rw [← hPS] at OM
      have HPS := Lib.hid hPS
      have HLE : Hid ((strC PS).length ≤ 1000000) := Lib.hid (by rw [hPS]; simp [strC]; omega)
      clear hPS
      generalize hnl : ts.length = n at *
      have HNL := Lib.hid hnl
      clear hnl
      by_cases hc : 1 ≤ c ∧ c ≤ 1023
      · have HOK : Hid (1 ≤ c ∧ c ≤ 1023) := Lib.hid hc
        have HPUT : Hid (∀ W, Calls Try.prog 8 #[.agg #[.int .i64 c, .string s]] W fun e w' => e = .returned (.tuple #[.string (piece (c, s)), .int .i64 0]) ∧ Below W.heap.size W w') := Lib.hid fun W => by
          obtain ⟨C, rfl⟩ := Int.eq_ofNat_of_zero_le (show 0 ≤ c by omega)
          exact put12_ok C s W (by omega) HSZ.out
        have HNX : Hid ((ts.take (k + 1)).map piece = PS ++ [piece (c, s)]) := Lib.hid (by rw [HT.out, List.map_append, HPS.out]; rfl)
        have HAL2 : Hid (∀ j t, j < k + 1 → ts[j]? = some t → 1 ≤ t.1 ∧ t.1 ≤ 1023) := Lib.hid (fun j t hj ht => by
          rcases Nat.lt_or_ge j k with h | h
          · exact HALL.out j t h ht
          · obtain rfl : j = k := by omega
            rw [HK.out] at ht
            simp only [Option.some.injEq] at ht
            exact ht ▸ hc)
        clear hc HALL HPS HT HK HMEM HSZ
        generalize piece (c, s) = pc at *
        go_wp2_with (first
          | (refine wpList_load_mid rfl 23 _ rfl b (o + k * 2) rfl [.int .i64 c, .string s] _ hrg Try.underlying23 rfl szR12 ?_)
          | (refine wl_alloc 23 _ zeR12 rfl rfl ?_; intro W21 be Be_21 l21 k21; have ge : wr.heap.size ≤ be := l21; have loe := Nat.le_trans SM.le l21; have Ov_21 := OM.keep k21; have Om_21 := SM.keep k21; have Hw21 := k21; clear l21 k21 OM SM)
          | (refine wl_store 23 2 szR12 _ _ rfl rfl _ rfl #[.int .i64 c, .string s] rfl _ _ Be_21 rfl rfl (by kernel_rfl) ?_; intro W22 Be_22 T22; have Ov_22 := Ov_21.turned T22 (Or.inr loe); have Om_22 := Om_21.turned T22 (Or.inr loe); have Hw22 := T22.below Hw21 ge; clear T22 Ov_21 Om_21 Be_21 Hw21; have ce_0_22 : W22.cell? ⟨be, 0, none⟩ = some (.int .i64 c) := Be_22.cell 0; have ce_1_22 : W22.cell? ⟨be, 1, none⟩ = some (.string s) := Be_22.cell 1)
          | (go_at_call 17; (with_reducible refine (within_yes _ _ _ _ HOK.out).mono ?_); rintro e w0 ⟨rfl, rfl⟩)
          | (refine wl_load 23 2 _ Try.underlying23 rfl szR12 _ rfl rfl _ rfl _ _ Be_22 rfl ?_)
          | (go_at_call 8; (with_reducible refine (HPUT.out _).mono ?_); rintro e W23 ⟨rfl, k23⟩; have Be_23 := Be_22.keep k23; have Ov_23 := Ov_22.keep k23; have Om_23 := Om_22.keep k23; have Hw23 := bq_trans Hw22 k23; clear k23 Be_22 Ov_22 Om_22 ce_0_22 ce_1_22 Hw22)
          | (refine wlg_slice 58 9 1 _ _ (str1_run pc) _ rfl rfl rfl ?_; intro W24 bn Bn_24 l24 k24; have gn : wr.heap.size ≤ bn := Nat.le_trans Hw23.size l24; have nen : be ≠ bn := Nat.ne_of_lt (Nat.lt_of_lt_of_le Be_23.lt l24); have lon := Nat.le_trans Om_23.le l24; have Be_24 := Be_23.keep k24; have Ov_24 := Ov_23.keep k24; have Om_24 := Om_23.keep k24; have Hw24 := bq_trans Hw23 k24; clear l24 k24 Be_23 Ov_23 Om_23 Hw23)
          | (refine wl_appC 58 9 1 _ Try.underlying58 str_info12 rfl (by decide) _ _ rfl rfl w.heap.size _ rfl (strC PS) Ov_24.1 bn 1 _ _ rfl Bn_24 rfl (by kernel_rfl) HLE.out (Nat.le_trans hsz Om_24.le) ?_; intro vn W25 hO k25 hgr hat; have Hwn := Hw24))
        go_roundw
        case rel => exact ⟨k + 1, by rw [HNL.out]; omega, by go_num, HAL2.out, by rw [HNX.out, strC_snoc]; exact hO, (bq_trans HB.out Hwn).trans k25⟩
        case measure => simp [intOf]; omega
      · have HBAD : Hid (c < 1 ∨ 1023 < c) := Lib.hid (by omega)
        have HJ : Hid (joinV ts = .tuple #[.string ⟨#[]⟩, .int .i64 1]) := Lib.hid (joinV_no (ts := ts) (fun hj => hc (hj.2 _ HMEM.out)))
        clear hc
        go_wp2_with (first
          | (refine wpList_load_mid rfl 23 _ rfl b (o + k * 2) rfl [.int .i64 c, .string s] _ hrg Try.underlying23 rfl szR12 ?_)
          | (refine wl_alloc 23 _ zeR12 rfl rfl ?_; intro W21 be Be_21 l21 k21; have ge : wr.heap.size ≤ be := l21; have loe := Nat.le_trans SM.le l21; have Ov_21 := OM.keep k21; have Om_21 := SM.keep k21; have Hw21 := k21; clear l21 k21 OM SM)
          | (refine wl_store 23 2 szR12 _ _ rfl rfl _ rfl #[.int .i64 c, .string s] rfl _ _ Be_21 rfl rfl (by kernel_rfl) ?_; intro W22 Be_22 T22; have Ov_22 := Ov_21.turned T22 (Or.inr loe); have Om_22 := Om_21.turned T22 (Or.inr loe); have Hw22 := T22.below Hw21 ge; clear T22 Ov_21 Om_21 Be_21 Hw21; have ce_0_22 : W22.cell? ⟨be, 0, none⟩ = some (.int .i64 c) := Be_22.cell 0; have ce_1_22 : W22.cell? ⟨be, 1, none⟩ = some (.string s) := Be_22.cell 1)
          | (go_at_call 17; (with_reducible refine (within_no _ _ _ _ HBAD.out).mono ?_); rintro e w0 ⟨rfl, rfl⟩))
        go_ret2
        exact ⟨by rw [HJ.out]; rfl, bq_trans HB.out Hw22⟩
    · obtain rfl : k = ts.length := by omega
      have HALL : Hid (joinOk ts) := Lib.hid ⟨HN.out, fun t ht => by
        obtain ⟨j, hj, hjt⟩ := List.getElem_of_mem ht
        exact hall j t hj (hjt ▸ List.getElem?_eq_getElem hj)⟩
      have HJ : Hid (joinV ts = _) := Lib.hid (joinV_yes HALL.out)
      have HPUT : Hid (∀ W, Calls Try.prog 8 #[.agg #[.int .i64 0, .string ⟨#[]⟩]] W fun e w' => e = .returned (.tuple #[.string (bs [0, 0]), .int .i64 0]) ∧ Below W.heap.size W w') := Lib.hid fun W => put12_ok 0 ⟨#[]⟩ W (by decide) (by decide)
      rw [List.take_of_length_le (Nat.le_refl _)] at hown
      have OM := hown
      have HB := Lib.hid hbel
      have hsz := hbel.size
      have HLE : Hid ((strC (ts.map piece)).length ≤ 1000000) := Lib.hid (by simp [strC]; have := HN.out; omega)
      have HJN := Lib.hid (sjoin12 ts HN.out HS.out)
      have HLN : Hid ((ts.map piece ++ [bs [0, 0]]).length = ts.length + 1) := Lib.hid (by simp)
      clear hall hown hbel HALL HEL hlt
      generalize bs (TG.listB (toL ts)) = ans at *
      generalize ts.map piece = PS at *
      generalize bs [0, 0] = pe at *
      have h0 : 0 < (PS ++ [pe]).length := by rw [HLN.out]; omega
      have H0 := Lib.hid h0
      clear h0 HLN
      generalize hLL : (PS ++ [pe]).length = N at HJN
      have HLL := Lib.hid hLL
      clear hLL
      go_wp2_with (first
        | (go_at_call 8; (with_reducible refine (HPUT.out _).mono ?_); rintro e W41 ⟨rfl, k41⟩; have Ov_41 := OM.keep k41; have Hw41 := k41; clear k41 OM)
        | (refine wlg_slice 58 9 1 _ _ (str1_run pe) _ rfl rfl rfl ?_; intro W42 bn Bn_42 l42 k42; have gn : wr.heap.size ≤ bn := Nat.le_trans Hw41.size l42; have Ov_42 := Ov_41.keep k42; have Hw42 := bq_trans Hw41 k42; clear l42 k42 Ov_41 Hw41)
        | (refine wl_appC 58 9 1 _ Try.underlying58 str_info12 rfl (by decide) _ _ rfl rfl w.heap.size _ rfl (strC PS) Ov_42 bn 1 _ _ rfl Bn_42 rfl (by kernel_rfl) HLE.out (Nat.le_trans hsz Hw42.size) ?_; intro vn W43 hO k43 hgr hat; have Hwn := Hw42; obtain ⟨g, cc, hvn, hg, hcap, hcells⟩ := own_strs (B := w.heap.size) (e := 9) (v := vn) (xs := PS ++ [pe]) (show OwnC W43 w.heap.size 9 1 vn (strC (PS ++ [pe])) from (strC_snoc PS pe).symm ▸ hO) H0.out; rw [HLL.out] at hvn hcap; have HG := Lib.hid (HJN.out g cc W43 hg hcap hcells); subst hvn; clear hg hcap hcells hgr hat hO)
        | (go_at_call 23; (with_reducible refine (HG.out).mono ?_); rintro e W99 ⟨rfl, k99⟩))
      go_ret2
      exact ⟨by rw [HJ.out]; rfl, bq_trans ((bq_trans HB.out Hwn).trans k43) k99⟩
theorem join12_any (ts : List (Int × ByteArray)) (v : Value) (w : World) (hv : Tags w v ts) (hs : ∀ t ∈ ts, t.2.size < 4294967296) : Calls Try.prog 12 #[v] w fun e w' => e = .returned (joinV ts) ∧ Below w.heap.size w w' := by
  by_cases hn : ts.length ≤ 256
  · exact join12_loop ts v w hv hn hs
  · obtain ⟨a, c, b, o, rfl, hl, _⟩ := hv.at
    exact join12_long ts a c w hl (by omega)
end Go.Proofs.Ytffcfcgkpebdoaa
namespace Go.Proofs.Ytffcfcgkpebdoaa
open Go.RowKit
set_option linter.unusedVariables false
set_option linter.unusedSimpArgs false
set_option maxRecDepth 100000
theorem szR12r : (Try.prog.info? 31).map (·.size) = some 2 := by kernel_rfl
theorem str_one12 (g : Nat) (x : Nat) (hx : x < 256) (W : World) (h : W.cell? ⟨g, 0, none⟩ = some (.int .u8 (x : Int))) : (convert 66 9 (.slice (some ⟨g, 0, none⟩) 1 1)).run Try.prog W = .ok (.string (bs [UInt8.ofNat x])) W := by
  have hl : ([UInt8.ofNat x] : List UInt8).length = 1 := rfl
  have := run_convert_bytes_back (P := Try.prog) W 66 9 5 ⟨g, 0, none⟩ 1 [UInt8.ofNat x] Try.underlying66 Try.underlying5 Try.underlying9 (fun j hj => by
    rw [hl] at hj
    obtain rfl : j = 0 := by omega
    have e : ([UInt8.ofNat x] : List UInt8)[0].toNat = x := B.ofNat_toNat x hx
    rw [e, ← h]; rfl)
  exact this
theorem one12_any (n : Int) (w : World) (h0 : 0 ≤ n) (h1 : n ≤ 255) : Calls Try.prog 22 #[.int .i64 n] w fun e w' => e = .returned (.string (bs [UInt8.ofNat n.toNat])) ∧ Below w.heap.size w w' := by
  obtain ⟨m, rfl⟩ := Int.eq_ofNat_of_zero_le h0
  rw [Int.toNat_natCast]
  have hcv := str_one12 w.heap.size m (by omega) (w.alloc (.cells #[.int .u8 (m : Int)] 5)) (by rw [World.cell?_alloc_new]; rfl)
  have hm : ((m : Int)) % 256 = (m : Int) := by omega
  go_enter Try.func22, Try.ntmps22
  go_wp2
  go_ret
  exact ⟨rfl, bq_alloc (bq_refl w) _⟩
set_option maxHeartbeats 1000000 in
theorem rput12c_0 (c : Nat) (b u0 u1 : ByteArray) (w : World) (hc : c ≤ 1023) (hb : b.size < 63) (H0 : Hid (∀ W, Calls Try.prog 22 #[.int .i64 ((64 * (c : Int) + (b.size : Int)) % 256)] W fun e w' => e = .returned (.string u0) ∧ Below W.heap.size W w')) (hz0 : u0.size ≤ 1) (H1 : Hid (∀ W, Calls Try.prog 22 #[.int .i64 ((64 * (c : Int) + (b.size : Int)) / 256)] W fun e w' => e = .returned (.string u1) ∧ Below W.heap.size W w')) (hz1 : u1.size ≤ 1) :
    Calls Try.prog 10 #[.agg #[.int .i64 (c : Int), .string b]] w fun e w' => e = .returned (.string (u0 ++ u1 ++ b)) ∧ Below w.heap.size w w' := by
  have hc0 : (0 : Int) ≤ (c : Int) := by omega
  have hc1 : (c : Int) ≤ 1023 := by omega
  have hw0 : IntKind.i64.wrap (64 * (c : Int)) = 64 * (c : Int) := by rw [i64_wrap _ (by omega) (by omega)]
  have hw1 : IntKind.i64.wrap (64 * (c : Int) + (b.size : Int)) = 64 * (c : Int) + (b.size : Int) := by rw [i64_wrap _ (by omega) (by omega)]
  have hm : (64 * (c : Int) + (b.size : Int)).tmod 256 = (64 * (c : Int) + (b.size : Int)) % 256 := Int.tmod_eq_emod_of_nonneg (by omega)
  have hd : (64 * (c : Int) + (b.size : Int)).tdiv 256 = (64 * (c : Int) + (b.size : Int)) / 256 := Int.tdiv_eq_ediv_of_nonneg (by omega)
  have hw3 : IntKind.i64.wrap ((64 * (c : Int) + (b.size : Int)) / 256) = (64 * (c : Int) + (b.size : Int)) / 256 := by rw [i64_wrap _ (by omega) (by omega)]
  have hs0 : ¬ 9223372036854775807 < u0.size + u1.size := by omega
  have hs1 : ¬ 9223372036854775807 < u0.size + u1.size + b.size := by omega
  go_enter Try.func10, Try.ntmps10
  go_upto_region 3 with (go_big_may; first
    | (refine wl_box 31 _ _ rfl rfl (show _ = Value.agg #[.int .i64 (c : Int), .string b] from rfl) ?_; intro W1 bx Bx_1 l1 k1; have gx : w.heap.size ≤ bx := l1; have Hw1 := k1; clear l1 k1; have cx_0_1 : W1.cell? ⟨bx, 0, none⟩ = some (.int .i64 ((c : Int))) := Bx_1.cell 0; have cx_1_1 : W1.cell? ⟨bx, 1, none⟩ = some (.string b) := Bx_1.cell 1))
  clear cx_0_1 cx_1_1
  refine Det.wp_region_det (S := fun w' => Below W1.heap.size W1 w') (by kernel_rfl) (by kernel_rfl) (bq_drew (bq_refl _)) ?_
  refine Det.det_take (v := ?_) (by rfl) ?_ ?_
  rotate_left
  · (intro w hSw; go_simp; try with_reducible rfl)
  try simp only [Act.put, List.setIfInBounds_toArray, List.set_cons_zero, List.set_cons_succ]
  refine Det.det_take (v := ?_) (by rfl) ?_ ?_
  rotate_left
  · (intro w hSw; have d0 : w.cell? ⟨bx, 0, none⟩ = some (.int .i64 ((c : Int))) := (Bx_1.keep hSw).cell 0; go_simp; try with_reducible rfl)
  try simp only [Act.put, List.setIfInBounds_toArray, List.set_cons_zero, List.set_cons_succ]
  refine Det.det_take (v := ?_) (by rfl) ?_ ?_
  rotate_left
  · (intro w hSw; go_simp; try with_reducible rfl)
  try simp only [Act.put, List.setIfInBounds_toArray, List.set_cons_zero, List.set_cons_succ]
  refine Det.det_take (v := ?_) (by rfl) ?_ ?_
  rotate_left
  · (intro w hSw; go_simp; try with_reducible rfl)
  try simp only [Act.put, List.setIfInBounds_toArray, List.set_cons_zero, List.set_cons_succ]
  refine Det.det_take (v := ?_) (by rfl) ?_ ?_
  rotate_left
  · (intro w hSw; go_simp; try with_reducible rfl)
  try simp only [Act.put, List.setIfInBounds_toArray, List.set_cons_zero, List.set_cons_succ]
  refine Det.det_take (v := ?_) (by rfl) ?_ ?_
  rotate_left
  · (intro w hSw; go_simp; try with_reducible rfl)
  try simp only [Act.put, List.setIfInBounds_toArray, List.set_cons_zero, List.set_cons_succ]
  refine Det.det_call (f := 22) (args := #[.int .i64 ((64 * (c : Int) + (b.size : Int)) % 256)]) (v := .string u0) (by rfl) ?_ (fun w hS => (H0.out w).mono fun e w' ⟨h1, h2⟩ => ⟨h1, bq_trans hS h2⟩) ?_
  · (intro w hSw; go_simp)
  try simp only [Act.put, List.setIfInBounds_toArray, List.set_cons_zero, List.set_cons_succ]
  refine Det.det_take (v := ?_) (by rfl) ?_ ?_
  rotate_left
  · (intro w hSw; go_simp; try with_reducible rfl)
  try simp only [Act.put, List.setIfInBounds_toArray, List.set_cons_zero, List.set_cons_succ]
  refine Det.det_take (v := ?_) (by rfl) ?_ ?_
  rotate_left
  · (intro w hSw; have d0 : w.cell? ⟨bx, 0, none⟩ = some (.int .i64 ((c : Int))) := (Bx_1.keep hSw).cell 0; go_simp; try with_reducible rfl)
  try simp only [Act.put, List.setIfInBounds_toArray, List.set_cons_zero, List.set_cons_succ]
  refine Det.det_take (v := ?_) (by rfl) ?_ ?_
  rotate_left
  · (intro w hSw; go_simp; try with_reducible rfl)
  try simp only [Act.put, List.setIfInBounds_toArray, List.set_cons_zero, List.set_cons_succ]
  refine Det.det_take (v := ?_) (by rfl) ?_ ?_
  rotate_left
  · (intro w hSw; go_simp; try with_reducible rfl)
  try simp only [Act.put, List.setIfInBounds_toArray, List.set_cons_zero, List.set_cons_succ]
  refine Det.det_take (v := ?_) (by rfl) ?_ ?_
  rotate_left
  · (intro w hSw; go_simp; try with_reducible rfl)
  try simp only [Act.put, List.setIfInBounds_toArray, List.set_cons_zero, List.set_cons_succ]
  refine Det.det_take (v := ?_) (by rfl) ?_ ?_
  rotate_left
  · (intro w hSw; go_simp; try with_reducible rfl)
  try simp only [Act.put, List.setIfInBounds_toArray, List.set_cons_zero, List.set_cons_succ]
  refine Det.det_call (f := 22) (args := #[.int .i64 ((64 * (c : Int) + (b.size : Int)) / 256)]) (v := .string u1) (by rfl) ?_ (fun w hS => (H1.out w).mono fun e w' ⟨h1, h2⟩ => ⟨h1, bq_trans hS h2⟩) ?_
  · (intro w hSw; go_simp)
  try simp only [Act.put, List.setIfInBounds_toArray, List.set_cons_zero, List.set_cons_succ]
  refine Det.det_take (v := ?_) (by rfl) ?_ ?_
  rotate_left
  · (intro w hSw; go_simp; try with_reducible rfl)
  try simp only [Act.put, List.setIfInBounds_toArray, List.set_cons_zero, List.set_cons_succ]
  refine Det.det_take (v := ?_) (by rfl) ?_ ?_
  rotate_left
  · (intro w hSw; go_simp; try with_reducible rfl)
  try simp only [Act.put, List.setIfInBounds_toArray, List.set_cons_zero, List.set_cons_succ]
  refine Det.det_take (v := ?_) (by rfl) ?_ ?_
  rotate_left
  · (intro w hSw; have d1 : w.cell? ⟨bx, 1, none⟩ = some (.string b) := (Bx_1.keep hSw).cell 1; go_simp; try with_reducible rfl)
  try simp only [Act.put, List.setIfInBounds_toArray, List.set_cons_zero, List.set_cons_succ]
  refine Det.det_take (v := ?_) (by rfl) ?_ ?_
  rotate_left
  · (intro w hSw; go_simp; try with_reducible rfl)
  try simp only [Act.put, List.setIfInBounds_toArray, List.set_cons_zero, List.set_cons_succ]
  refine Det.det_take (v := ?_) (by rfl) ?_ ?_
  rotate_left
  · (intro w hSw; go_simp; try with_reducible rfl)
  try simp only [Act.put, List.setIfInBounds_toArray, List.set_cons_zero, List.set_cons_succ]
  refine Det.det_nil (fun W2 k2 => ?_)
  have Bx_2 := Bx_1.keep k2
  have Hw2 := bq_trans Hw1 k2
  clear k2 Bx_1 Hw1
  go_wp2_with fail
  go_ret
  exact ⟨rfl, Hw2⟩
set_option maxHeartbeats 1000000 in
theorem rput12c_1 (c : Nat) (b u0 u1 u2 u3 u4 u5 : ByteArray) (w : World) (hc : c ≤ 1023) (hb : ¬ b.size < 63) (hb2 : b.size < 4294967296) (H0 : Hid (∀ W, Calls Try.prog 22 #[.int .i64 ((64 * (c : Int) + 63) % 256)] W fun e w' => e = .returned (.string u0) ∧ Below W.heap.size W w')) (hz0 : u0.size ≤ 1) (H1 : Hid (∀ W, Calls Try.prog 22 #[.int .i64 ((64 * (c : Int) + 63) / 256)] W fun e w' => e = .returned (.string u1) ∧ Below W.heap.size W w')) (hz1 : u1.size ≤ 1) (H2 : Hid (∀ W, Calls Try.prog 22 #[.int .i64 ((b.size : Int) % 256)] W fun e w' => e = .returned (.string u2) ∧ Below W.heap.size W w')) (hz2 : u2.size ≤ 1) (H3 : Hid (∀ W, Calls Try.prog 22 #[.int .i64 ((b.size : Int) / 256 % 256)] W fun e w' => e = .returned (.string u3) ∧ Below W.heap.size W w')) (hz3 : u3.size ≤ 1) (H4 : Hid (∀ W, Calls Try.prog 22 #[.int .i64 ((b.size : Int) / 65536 % 256)] W fun e w' => e = .returned (.string u4) ∧ Below W.heap.size W w')) (hz4 : u4.size ≤ 1) (H5 : Hid (∀ W, Calls Try.prog 22 #[.int .i64 ((b.size : Int) / 16777216)] W fun e w' => e = .returned (.string u5) ∧ Below W.heap.size W w')) (hz5 : u5.size ≤ 1) :
    Calls Try.prog 10 #[.agg #[.int .i64 (c : Int), .string b]] w fun e w' => e = .returned (.string (u0 ++ u1 ++ u2 ++ u3 ++ u4 ++ u5 ++ b)) ∧ Below w.heap.size w w' := by
  have hc0 : (0 : Int) ≤ (c : Int) := by omega
  have hc1 : (c : Int) ≤ 1023 := by omega
  have hw0 : IntKind.i64.wrap (64 * (c : Int)) = 64 * (c : Int) := by rw [i64_wrap _ (by omega) (by omega)]
  have hw1 : IntKind.i64.wrap (64 * (c : Int) + 63) = 64 * (c : Int) + 63 := by rw [i64_wrap _ (by omega) (by omega)]
  have hm : (64 * (c : Int) + 63).tmod 256 = (64 * (c : Int) + 63) % 256 := Int.tmod_eq_emod_of_nonneg (by omega)
  have hd : (64 * (c : Int) + 63).tdiv 256 = (64 * (c : Int) + 63) / 256 := Int.tdiv_eq_ediv_of_nonneg (by omega)
  have hw3 : IntKind.i64.wrap ((64 * (c : Int) + 63) / 256) = (64 * (c : Int) + 63) / 256 := by rw [i64_wrap _ (by omega) (by omega)]
  have hbi : (b.size : Int) < 4294967296 := by omega
  have hb0 : (0 : Int) ≤ (b.size : Int) := by omega
  have hbj : ¬ (b.size : Int) < 63 := by omega
  have hm1 : (b.size : Int).tmod 256 = (b.size : Int) % 256 := Int.tmod_eq_emod_of_nonneg (by omega)
  have hq0 : (b.size : Int).tdiv 256 = (b.size : Int) / 256 := Int.tdiv_eq_ediv_of_nonneg (by omega)
  have hqw0 : IntKind.i64.wrap ((b.size : Int) / 256) = (b.size : Int) / 256 := by rw [i64_wrap _ (by omega) (by omega)]
  have hqm0 : ((b.size : Int) / 256).tmod 256 = (b.size : Int) / 256 % 256 := Int.tmod_eq_emod_of_nonneg (by omega)
  have hq1 : (b.size : Int).tdiv 65536 = (b.size : Int) / 65536 := Int.tdiv_eq_ediv_of_nonneg (by omega)
  have hqw1 : IntKind.i64.wrap ((b.size : Int) / 65536) = (b.size : Int) / 65536 := by rw [i64_wrap _ (by omega) (by omega)]
  have hqm1 : ((b.size : Int) / 65536).tmod 256 = (b.size : Int) / 65536 % 256 := Int.tmod_eq_emod_of_nonneg (by omega)
  have hq2 : (b.size : Int).tdiv 16777216 = (b.size : Int) / 16777216 := Int.tdiv_eq_ediv_of_nonneg (by omega)
  have hqw2 : IntKind.i64.wrap ((b.size : Int) / 16777216) = (b.size : Int) / 16777216 := by rw [i64_wrap _ (by omega) (by omega)]
  have hs0 : ¬ 9223372036854775807 < u0.size + u1.size := by omega
  have hs1 : ¬ 9223372036854775807 < u0.size + u1.size + u2.size := by omega
  have hs2 : ¬ 9223372036854775807 < u0.size + u1.size + u2.size + u3.size := by omega
  have hs3 : ¬ 9223372036854775807 < u0.size + u1.size + u2.size + u3.size + u4.size := by omega
  have hs4 : ¬ 9223372036854775807 < u0.size + u1.size + u2.size + u3.size + u4.size + u5.size := by omega
  have hs5 : ¬ 9223372036854775807 < u0.size + u1.size + u2.size + u3.size + u4.size + u5.size + b.size := by omega
  have HBI := Lib.hid hbi
  clear hb2 hb hbi
  go_enter Try.func10, Try.ntmps10
  go_upto_region 4 with (go_big_may; first
    | (refine wl_box 31 _ _ rfl rfl (show _ = Value.agg #[.int .i64 (c : Int), .string b] from rfl) ?_; intro W1 bx Bx_1 l1 k1; have gx : w.heap.size ≤ bx := l1; have Hw1 := k1; clear l1 k1; have cx_0_1 : W1.cell? ⟨bx, 0, none⟩ = some (.int .i64 ((c : Int))) := Bx_1.cell 0; have cx_1_1 : W1.cell? ⟨bx, 1, none⟩ = some (.string b) := Bx_1.cell 1))
  clear cx_0_1 cx_1_1
  refine Det.wp_region_det (S := fun w' => Below W1.heap.size W1 w') (by kernel_rfl) (by kernel_rfl) (bq_drew (bq_refl _)) ?_
  refine Det.det_take (v := ?_) (by rfl) ?_ ?_
  rotate_left
  · (intro w hSw; go_simp; try with_reducible rfl)
  try simp only [Act.put, List.setIfInBounds_toArray, List.set_cons_zero, List.set_cons_succ]
  refine Det.det_take (v := ?_) (by rfl) ?_ ?_
  rotate_left
  · (intro w hSw; have d0 : w.cell? ⟨bx, 0, none⟩ = some (.int .i64 ((c : Int))) := (Bx_1.keep hSw).cell 0; go_simp; try with_reducible rfl)
  try simp only [Act.put, List.setIfInBounds_toArray, List.set_cons_zero, List.set_cons_succ]
  refine Det.det_take (v := ?_) (by rfl) ?_ ?_
  rotate_left
  · (intro w hSw; go_simp; try with_reducible rfl)
  try simp only [Act.put, List.setIfInBounds_toArray, List.set_cons_zero, List.set_cons_succ]
  refine Det.det_take (v := ?_) (by rfl) ?_ ?_
  rotate_left
  · (intro w hSw; go_simp; try with_reducible rfl)
  try simp only [Act.put, List.setIfInBounds_toArray, List.set_cons_zero, List.set_cons_succ]
  refine Det.det_take (v := ?_) (by rfl) ?_ ?_
  rotate_left
  · (intro w hSw; go_simp; try with_reducible rfl)
  try simp only [Act.put, List.setIfInBounds_toArray, List.set_cons_zero, List.set_cons_succ]
  refine Det.det_call (f := 22) (args := #[.int .i64 ((64 * (c : Int) + 63) % 256)]) (v := .string u0) (by rfl) ?_ (fun w hS => (H0.out w).mono fun e w' ⟨h1, h2⟩ => ⟨h1, bq_trans hS h2⟩) ?_
  · (intro w hSw; go_simp)
  try simp only [Act.put, List.setIfInBounds_toArray, List.set_cons_zero, List.set_cons_succ]
  refine Det.det_take (v := ?_) (by rfl) ?_ ?_
  rotate_left
  · (intro w hSw; go_simp; try with_reducible rfl)
  try simp only [Act.put, List.setIfInBounds_toArray, List.set_cons_zero, List.set_cons_succ]
  refine Det.det_take (v := ?_) (by rfl) ?_ ?_
  rotate_left
  · (intro w hSw; have d0 : w.cell? ⟨bx, 0, none⟩ = some (.int .i64 ((c : Int))) := (Bx_1.keep hSw).cell 0; go_simp; try with_reducible rfl)
  try simp only [Act.put, List.setIfInBounds_toArray, List.set_cons_zero, List.set_cons_succ]
  refine Det.det_take (v := ?_) (by rfl) ?_ ?_
  rotate_left
  · (intro w hSw; go_simp; try with_reducible rfl)
  try simp only [Act.put, List.setIfInBounds_toArray, List.set_cons_zero, List.set_cons_succ]
  refine Det.det_take (v := ?_) (by rfl) ?_ ?_
  rotate_left
  · (intro w hSw; go_simp; try with_reducible rfl)
  try simp only [Act.put, List.setIfInBounds_toArray, List.set_cons_zero, List.set_cons_succ]
  refine Det.det_take (v := ?_) (by rfl) ?_ ?_
  rotate_left
  · (intro w hSw; go_simp; try with_reducible rfl)
  try simp only [Act.put, List.setIfInBounds_toArray, List.set_cons_zero, List.set_cons_succ]
  refine Det.det_call (f := 22) (args := #[.int .i64 ((64 * (c : Int) + 63) / 256)]) (v := .string u1) (by rfl) ?_ (fun w hS => (H1.out w).mono fun e w' ⟨h1, h2⟩ => ⟨h1, bq_trans hS h2⟩) ?_
  · (intro w hSw; go_simp)
  try simp only [Act.put, List.setIfInBounds_toArray, List.set_cons_zero, List.set_cons_succ]
  refine Det.det_take (v := ?_) (by rfl) ?_ ?_
  rotate_left
  · (intro w hSw; go_simp; try with_reducible rfl)
  try simp only [Act.put, List.setIfInBounds_toArray, List.set_cons_zero, List.set_cons_succ]
  refine Det.det_take (v := ?_) (by rfl) ?_ ?_
  rotate_left
  · (intro w hSw; go_simp; try with_reducible rfl)
  try simp only [Act.put, List.setIfInBounds_toArray, List.set_cons_zero, List.set_cons_succ]
  refine Det.det_take (v := ?_) (by rfl) ?_ ?_
  rotate_left
  · (intro w hSw; go_simp; try with_reducible rfl)
  try simp only [Act.put, List.setIfInBounds_toArray, List.set_cons_zero, List.set_cons_succ]
  refine Det.det_call (f := 22) (args := #[.int .i64 ((b.size : Int) % 256)]) (v := .string u2) (by rfl) ?_ (fun w hS => (H2.out w).mono fun e w' ⟨h1, h2⟩ => ⟨h1, bq_trans hS h2⟩) ?_
  · (intro w hSw; go_simp)
  try simp only [Act.put, List.setIfInBounds_toArray, List.set_cons_zero, List.set_cons_succ]
  refine Det.det_take (v := ?_) (by rfl) ?_ ?_
  rotate_left
  · (intro w hSw; go_simp; try with_reducible rfl)
  try simp only [Act.put, List.setIfInBounds_toArray, List.set_cons_zero, List.set_cons_succ]
  refine Det.det_take (v := ?_) (by rfl) ?_ ?_
  rotate_left
  · (intro w hSw; go_simp; try with_reducible rfl)
  try simp only [Act.put, List.setIfInBounds_toArray, List.set_cons_zero, List.set_cons_succ]
  refine Det.det_take (v := ?_) (by rfl) ?_ ?_
  rotate_left
  · (intro w hSw; go_simp; try with_reducible rfl)
  try simp only [Act.put, List.setIfInBounds_toArray, List.set_cons_zero, List.set_cons_succ]
  refine Det.det_take (v := ?_) (by rfl) ?_ ?_
  rotate_left
  · (intro w hSw; go_simp; try with_reducible rfl)
  try simp only [Act.put, List.setIfInBounds_toArray, List.set_cons_zero, List.set_cons_succ]
  refine Det.det_call (f := 22) (args := #[.int .i64 ((b.size : Int) / 256 % 256)]) (v := .string u3) (by rfl) ?_ (fun w hS => (H3.out w).mono fun e w' ⟨h1, h2⟩ => ⟨h1, bq_trans hS h2⟩) ?_
  · (intro w hSw; go_simp)
  try simp only [Act.put, List.setIfInBounds_toArray, List.set_cons_zero, List.set_cons_succ]
  refine Det.det_take (v := ?_) (by rfl) ?_ ?_
  rotate_left
  · (intro w hSw; go_simp; try with_reducible rfl)
  try simp only [Act.put, List.setIfInBounds_toArray, List.set_cons_zero, List.set_cons_succ]
  refine Det.det_take (v := ?_) (by rfl) ?_ ?_
  rotate_left
  · (intro w hSw; go_simp; try with_reducible rfl)
  try simp only [Act.put, List.setIfInBounds_toArray, List.set_cons_zero, List.set_cons_succ]
  refine Det.det_take (v := ?_) (by rfl) ?_ ?_
  rotate_left
  · (intro w hSw; go_simp; try with_reducible rfl)
  try simp only [Act.put, List.setIfInBounds_toArray, List.set_cons_zero, List.set_cons_succ]
  refine Det.det_take (v := ?_) (by rfl) ?_ ?_
  rotate_left
  · (intro w hSw; go_simp; try with_reducible rfl)
  try simp only [Act.put, List.setIfInBounds_toArray, List.set_cons_zero, List.set_cons_succ]
  refine Det.det_call (f := 22) (args := #[.int .i64 ((b.size : Int) / 65536 % 256)]) (v := .string u4) (by rfl) ?_ (fun w hS => (H4.out w).mono fun e w' ⟨h1, h2⟩ => ⟨h1, bq_trans hS h2⟩) ?_
  · (intro w hSw; go_simp)
  try simp only [Act.put, List.setIfInBounds_toArray, List.set_cons_zero, List.set_cons_succ]
  refine Det.det_take (v := ?_) (by rfl) ?_ ?_
  rotate_left
  · (intro w hSw; go_simp; try with_reducible rfl)
  try simp only [Act.put, List.setIfInBounds_toArray, List.set_cons_zero, List.set_cons_succ]
  refine Det.det_take (v := ?_) (by rfl) ?_ ?_
  rotate_left
  · (intro w hSw; go_simp; try with_reducible rfl)
  try simp only [Act.put, List.setIfInBounds_toArray, List.set_cons_zero, List.set_cons_succ]
  refine Det.det_take (v := ?_) (by rfl) ?_ ?_
  rotate_left
  · (intro w hSw; go_simp; try with_reducible rfl)
  try simp only [Act.put, List.setIfInBounds_toArray, List.set_cons_zero, List.set_cons_succ]
  refine Det.det_call (f := 22) (args := #[.int .i64 ((b.size : Int) / 16777216)]) (v := .string u5) (by rfl) ?_ (fun w hS => (H5.out w).mono fun e w' ⟨h1, h2⟩ => ⟨h1, bq_trans hS h2⟩) ?_
  · (intro w hSw; go_simp)
  try simp only [Act.put, List.setIfInBounds_toArray, List.set_cons_zero, List.set_cons_succ]
  refine Det.det_take (v := ?_) (by rfl) ?_ ?_
  rotate_left
  · (intro w hSw; go_simp; try with_reducible rfl)
  try simp only [Act.put, List.setIfInBounds_toArray, List.set_cons_zero, List.set_cons_succ]
  refine Det.det_take (v := ?_) (by rfl) ?_ ?_
  rotate_left
  · (intro w hSw; go_simp; try with_reducible rfl)
  try simp only [Act.put, List.setIfInBounds_toArray, List.set_cons_zero, List.set_cons_succ]
  refine Det.det_take (v := ?_) (by rfl) ?_ ?_
  rotate_left
  · (intro w hSw; have d1 : w.cell? ⟨bx, 1, none⟩ = some (.string b) := (Bx_1.keep hSw).cell 1; go_simp; try with_reducible rfl)
  try simp only [Act.put, List.setIfInBounds_toArray, List.set_cons_zero, List.set_cons_succ]
  refine Det.det_take (v := ?_) (by rfl) ?_ ?_
  rotate_left
  · (intro w hSw; go_simp; try with_reducible rfl)
  try simp only [Act.put, List.setIfInBounds_toArray, List.set_cons_zero, List.set_cons_succ]
  refine Det.det_take (v := ?_) (by rfl) ?_ ?_
  rotate_left
  · (intro w hSw; go_simp; try with_reducible rfl)
  try simp only [Act.put, List.setIfInBounds_toArray, List.set_cons_zero, List.set_cons_succ]
  refine Det.det_nil (fun W2 k2 => ?_)
  have Bx_2 := Bx_1.keep k2
  have Hw2 := bq_trans Hw1 k2
  clear k2 Bx_1 Hw1
  go_wp2_with fail
  go_ret
  exact ⟨rfl, Hw2⟩
theorem rput12_any (c : Nat) (b : ByteArray) (w : World) (hc : c ≤ 1023) (hb : b.size < 4294967296) :
    Calls Try.prog 10 #[.agg #[.int .i64 (c : Int), .string b]] w fun e w' => e = .returned (.string (bs (TG.one c b.data.toList))) ∧ Below w.heap.size w w' := by
  have o1 : ∀ (v : Int) (W : World), 0 ≤ v → v ≤ 255 → Calls Try.prog 22 #[.int .i64 v] W fun e w' => e = .returned (.string (bs [UInt8.ofNat v.toNat])) ∧ Below W.heap.size W w' := fun v W h0 h1 => one12_any v W h0 h1
  have t : ∀ (v d : Nat), ((v : Int) / (d : Int)).toNat = v / d := fun v d => by rw [← Int.natCast_ediv, Int.toNat_natCast]
  have t2 : ∀ (v d : Nat), ((v : Int) % (d : Int)).toNat = v % d := fun v d => by rw [← Int.natCast_emod, Int.toNat_natCast]
  by_cases h : b.size < 63
  · have e : bs (TG.one c b.data.toList) = bs [UInt8.ofNat ((64 * (c : Int) + (b.size : Int)) % 256).toNat] ++ bs [UInt8.ofNat ((64 * (c : Int) + (b.size : Int)) / 256).toNat] ++ b := by
      have e1 : 64 * (c : Int) + (b.size : Int) = ((64 * c + b.size : Nat) : Int) := by omega
      have q1 : ((64 * c + b.size : Nat) : Int) % 256 = ((64 * c + b.size : Nat) : Int) % ((256 : Nat) : Int) := rfl
      have q2 : ((64 * c + b.size : Nat) : Int) / 256 = ((64 * c + b.size : Nat) : Int) / ((256 : Nat) : Int) := rfl
      rw [e1, q1, q2, t, t2, TG.one, TG.hd, bytes_length, if_pos h, Nat.min_eq_left (by omega), TG.le2, show (64 * c + b.size) / 256 % 256 = (64 * c + b.size) / 256 by omega, List.append_nil, ← bs_append, bs_of, bs_append]
      rfl
    rw [e]
    exact rput12c_0 c b _ _ w hc h (Lib.hid fun W => o1 _ W (by omega) (by omega)) (by rw [bs_size]; exact Nat.le_refl _) (Lib.hid fun W => o1 _ W (by omega) (by omega)) (by rw [bs_size]; exact Nat.le_refl _)
  · have e : bs (TG.one c b.data.toList) = bs [UInt8.ofNat ((64 * (c : Int) + 63) % 256).toNat] ++ bs [UInt8.ofNat ((64 * (c : Int) + 63) / 256).toNat] ++ bs [UInt8.ofNat ((b.size : Int) % 256).toNat] ++ bs [UInt8.ofNat ((b.size : Int) / 256 % 256).toNat] ++ bs [UInt8.ofNat ((b.size : Int) / 65536 % 256).toNat] ++ bs [UInt8.ofNat ((b.size : Int) / 16777216).toNat] ++ b := by
      have g1 : ((64 * (c : Int) + 63) % 256).toNat = (64 * c + 63) % 256 := by omega
      have g2 : ((64 * (c : Int) + 63) / 256).toNat = (64 * c + 63) / 256 % 256 := by omega
      have g3 : ((b.size : Int) % 256).toNat = b.size % 256 := by omega
      have g4 : ((b.size : Int) / 256 % 256).toNat = b.size / 256 % 256 := by omega
      have g5 : ((b.size : Int) / 65536 % 256).toNat = b.size / 256 / 256 % 256 := by omega
      have g6 : ((b.size : Int) / 16777216).toNat = b.size / 256 / 256 / 256 % 256 := by omega
      rw [g1, g2, g3, g4, g5, g6, TG.one, TG.hd, bytes_length, if_neg h, Nat.min_eq_right (by omega), TG.le2, ← bs_append, bs_of, bs_append, bs_append, bs_append, bs_append, bs_append]
      rfl
    rw [e]
    exact rput12c_1 c b _ _ _ _ _ _ w hc h hb (Lib.hid fun W => o1 _ W (by omega) (by omega)) (by rw [bs_size]; exact Nat.le_refl _) (Lib.hid fun W => o1 _ W (by omega) (by omega)) (by rw [bs_size]; exact Nat.le_refl _) (Lib.hid fun W => o1 _ W (by omega) (by omega)) (by rw [bs_size]; exact Nat.le_refl _) (Lib.hid fun W => o1 _ W (by omega) (by omega)) (by rw [bs_size]; exact Nat.le_refl _) (Lib.hid fun W => o1 _ W (by omega) (by omega)) (by rw [bs_size]; exact Nat.le_refl _) (Lib.hid fun W => o1 _ W (by omega) (by omega)) (by rw [bs_size]; exact Nat.le_refl _)
end Go.Proofs.Ytffcfcgkpebdoaa
namespace Go.Proofs.Ytffcfcgkpebdoaa
open Go.RowKit
set_option linter.unusedVariables false
set_option linter.unusedSimpArgs false
set_option maxRecDepth 100000
def rjoinV (ts : List (Int × ByteArray)) : Value := if joinOk ts then .tuple #[.string (bs (TG.listB (toL ts))), .bool true] else .tuple #[.string ⟨#[]⟩, .bool false]
theorem rjoinV_no {ts : List (Int × ByteArray)} (h : ¬ joinOk ts) : rjoinV ts = .tuple #[.string ⟨#[]⟩, .bool false] := if_neg h
theorem rjoinV_yes {ts : List (Int × ByteArray)} (h : joinOk ts) : rjoinV ts = .tuple #[.string (bs (TG.listB (toL ts))), .bool true] := if_pos h
def RJRel (w : World) (ts : List (Int × ByteArray)) (s i : Value) (wr : World) : Prop :=
  ∃ k : Nat, k ≤ ts.length ∧ i = .int .i64 k ∧ s = .string (bs (TG.tagsB (toL (ts.take k)))) ∧ (∀ j t, j < k → ts[j]? = some t → 1 ≤ t.1 ∧ t.1 ≤ 1023) ∧ Below w.heap.size w wr
theorem tagsB_take (ts : List (Int × ByteArray)) (h : ∀ t ∈ ts, t.2.size < 4294967296) (hn : ts.length ≤ 1000) (k : Nat) : (bs (TG.tagsB (toL (ts.take k)))).size ≤ 4294967302000 := by
  have h1 := tagsB_le (ts.take k) fun t ht => h t (List.mem_of_mem_take ht)
  have h2 : (ts.take k).length ≤ 1000 := by rw [List.length_take]; omega
  have h3 : (ts.take k).length * 4294967302 ≤ 1000 * 4294967302 := Nat.mul_le_mul_right _ h2
  rw [bs_size]
  omega
set_option maxHeartbeats 1000000 in
theorem rjoin12_any (ts : List (Int × ByteArray)) (v : Value) (w : World) (hv : Tags w v ts) (hn : ts.length ≤ 1000) (hs : ∀ t ∈ ts, t.2.size < 4294967296) : Calls Try.prog 13 #[v] w fun e w' => e = .returned (rjoinV ts) ∧ Below w.heap.size w w' := by
  obtain ⟨a, c0, b, o, rfl, hl, hel⟩ := hv.at
  have HEL := Lib.hid hel
  have HS := Lib.hid hs
  have HTL := Lib.hid (tagsB_take ts hs hn)
  have hn2 : (ts.length : Int) ≤ 1000 := by omega
  have HN := Lib.hid hn
  clear hel hv hn hl hs
  go_enter Try.func13, Try.ntmps13
  go_wp2_with fail
  go_loopw [4, 5] (fun s i wr => RJRel w ts s i wr) (fun _ i _ => ts.length - (intOf i).toNat)
  case atStart => exact ⟨0, by omega, rfl, rfl, fun j t h2 _ => absurd h2 (by omega), bq_refl w⟩
  case round =>
    obtain ⟨k, hk, rfl, rfl, hall, hbel⟩ := hrel
    by_cases hlt : k < ts.length
    · obtain ⟨⟨c, s⟩, ht⟩ : ∃ t, ts[k]? = some t := ⟨_, List.getElem?_eq_getElem hlt⟩
      obtain ⟨ha, hb, hi64, hrg0⟩ := HEL.out k c s ht
      have HALL := Lib.hid hall
      have HT := Lib.hid (take_snoc ts k _ ht)
      have HK := Lib.hid ht
      have HMEM := Lib.hid (List.mem_of_getElem? ht)
      have HSZ := Lib.hid (HS.out _ HMEM.out)
      have hrg := rangeAt_keep hrg0 (Below.mono hbel (Nat.le_refl _))
      have hc0 : wr.cell? ⟨b, o + k * 2, none⟩ = some (.int .i64 c) := hrg 0 _ rfl
      clear ht hrg0
      subst ha
      have HB := Lib.hid hbel
      have i2 : (k : Int) < (ts.length : Int) := by omega
      have i1 : (0 : Int) ≤ (k : Int) := by omega
      have hSZ := HTL.out k
      have hsz2 : s.size ≤ 4294967296 := by have := HSZ.out; dsimp only at this; omega
      clear hall hbel hi64 HEL HS
      generalize hS : bs (TG.tagsB (toL (ts.take k))) = S at *
      have HSS := Lib.hid hS
      clear hS
      generalize hnl : ts.length = n at *
      have HNL := Lib.hid hnl
      clear hnl
      by_cases hc : 1 ≤ c ∧ c ≤ 1023
      · have hc1 : 1 ≤ c := hc.1
        have hc2 : c ≤ 1023 := hc.2
        have HPUT : Hid (∀ W, Calls Try.prog 10 #[.agg #[.int .i64 c, .string s]] W fun e w' => e = .returned (.string (piece (c, s))) ∧ Below W.heap.size W w') := Lib.hid fun W => by
          obtain ⟨C, rfl⟩ := Int.eq_ofNat_of_zero_le (show 0 ≤ c by omega)
          exact rput12_any C s W (by omega) HSZ.out
        have HNX : Hid (bs (TG.tagsB (toL (ts.take (k + 1)))) = S ++ piece (c, s)) := Lib.hid (by
          have e : toL (ts.take k ++ [(c, s)]) = toL (ts.take k) ++ [(c.toNat, s.data.toList)] := by simp [toL]
          rw [HT.out, e, TG.tagsB_snoc, ← bs_append, HSS.out]
          rfl)
        have HAL2 : Hid (∀ j t, j < k + 1 → ts[j]? = some t → 1 ≤ t.1 ∧ t.1 ≤ 1023) := Lib.hid (fun j t hj ht => by
          rcases Nat.lt_or_ge j k with h | h
          · exact HALL.out j t h ht
          · obtain rfl : j = k := by omega
            rw [HK.out] at ht
            simp only [Option.some.injEq] at ht
            exact ht ▸ hc)
        have hpz : (piece (c, s)).size ≤ 4294967302 := by
          have := HSZ.out
          dsimp only at this
          rw [piece, bs_size, TG.one_len]
          dsimp only
          rw [bytes_length]
          split <;> omega
        clear hc HALL HT HK HMEM HSZ HSS HTL
        generalize piece (c, s) = pc at *
        go_wp2_with (first
          | (refine wpList_load_mid rfl 31 _ rfl b (o + k * 2) rfl [.int .i64 c, .string s] _ hrg Try.underlying31 rfl szR12r ?_)
          | (go_at_call 10; (with_reducible refine (HPUT.out _).mono ?_); rintro e W1 ⟨rfl, k1⟩))
        go_roundw
        case rel => exact ⟨k + 1, by rw [HNL.out]; omega, by go_num, by rw [HNX.out], HAL2.out, bq_trans HB.out k1⟩
        case measure => simp [intOf]; omega
      · have HJ : Hid (rjoinV ts = .tuple #[.string ⟨#[]⟩, .bool false]) := Lib.hid (rjoinV_no (ts := ts) (fun hj => hc (hj.2 _ HMEM.out)))
        rcases (show c < 1 ∨ 1023 < c by omega) with hc | hc
        all_goals
          go_wp2
          go_ret2
          exact ⟨by rw [HJ.out]; rfl, HB.out⟩
    · obtain rfl : k = ts.length := by omega
      rw [List.take_of_length_le (Nat.le_refl _)] at *
      have HB := Lib.hid hbel
      by_cases hl : ts.length ≤ 256
      · have HJ : Hid (rjoinV ts = _) := Lib.hid (rjoinV_yes ⟨hl, fun t ht => by
          obtain ⟨j, hj, hjt⟩ := List.getElem_of_mem ht
          exact hall j t hj (hjt ▸ List.getElem?_eq_getElem hj)⟩)
        have hl2 : (ts.length : Int) ≤ 256 := by omega
        have hS := HTL.out ts.length
        rw [List.take_of_length_le (Nat.le_refl _)] at hS
        have HO : Hid (∀ W, Calls Try.prog 22 #[.int .i64 0] W fun e w' => e = .returned (.string (bs [0])) ∧ Below W.heap.size W w') := Lib.hid fun W => one12_any 0 W (by decide) (by decide)
        have h0z : (bs [0]).size ≤ 1 := by rw [bs_size]; exact Nat.le_refl _
        have HE : Hid (bs (TG.listB (toL ts)) = bs (TG.tagsB (toL ts)) ++ bs [0] ++ bs [0]) := Lib.hid (by rw [bs_append, bs_append, List.append_assoc]; rfl)
        clear hall hbel HEL HS HTL hl HN hlt
        generalize bs (TG.tagsB (toL ts)) = S at *
        generalize bs [0] = z at *
        generalize ts.length = n at *
        go_wp2_with (first
          | (go_at_call 22; (with_reducible refine (HO.out _).mono ?_); rintro e W1 ⟨rfl, k1⟩; have Hw1 := bq_trans HB.out k1; clear HB k1)
          | (go_at_call 22; (with_reducible refine (HO.out _).mono ?_); rintro e W2 ⟨rfl, k2⟩; have Hw2 := bq_trans Hw1 k2))
        go_ret2
        exact ⟨by rw [HJ.out, HE.out]; rfl, Hw2⟩
      · have HJ : Hid (rjoinV ts = .tuple #[.string ⟨#[]⟩, .bool false]) := Lib.hid (rjoinV_no (ts := ts) (fun hj => hl hj.1))
        have hl2 : (256 : Int) < (ts.length : Int) := by omega
        clear hall hbel HEL HS HTL hl HN hlt
        generalize ts.length = n at *
        go_wp2
        go_ret2
        exact ⟨by rw [HJ.out]; rfl, HB.out⟩
end Go.Proofs.Ytffcfcgkpebdoaa
namespace Go.Proofs.Ytffcfcgkpebdoaa
open Go.RowKit
set_option linter.unusedVariables false
set_option linter.unusedSimpArgs false
set_option maxRecDepth 100000
def fewOk (ts : List (Int × ByteArray)) : Prop := ts.length ≤ 300 ∧ ∀ t ∈ ts, t.2.size ≤ 1024
instance (ts : List (Int × ByteArray)) : Decidable (fewOk ts) := by unfold fewOk; infer_instance
def FRel (w : World) (ts : List (Int × ByteArray)) (i : Value) (wr : World) : Prop := ∃ k : Nat, k ≤ ts.length ∧ i = .int .i64 k ∧ (∀ j t, j < k → ts[j]? = some t → t.2.size ≤ 1024) ∧ Below w.heap.size w wr
theorem all_step {P : Int × ByteArray → Prop} {ts : List (Int × ByteArray)} {k : Nat} {x : Int × ByteArray} (h : ∀ j t, j < k → ts[j]? = some t → P t) (hk : ts[k]? = some x) (hx : P x) : ∀ j t, j < k + 1 → ts[j]? = some t → P t := fun j t hj ht => by
  rcases Nat.lt_or_ge j k with h2 | h2
  · exact h j t h2 ht
  · obtain rfl : j = k := by omega
    rw [hk] at ht
    simp only [Option.some.injEq] at ht
    exact ht ▸ hx
theorem all_mem {P : Int × ByteArray → Prop} {ts : List (Int × ByteArray)} (h : ∀ j t, j < ts.length → ts[j]? = some t → P t) : ∀ t ∈ ts, P t := fun t ht => by
  obtain ⟨j, hj, hjt⟩ := List.getElem_of_mem ht
  exact h j t hj (hjt ▸ List.getElem?_eq_getElem hj)
set_option maxHeartbeats 1000000 in
theorem few12_any (ts : List (Int × ByteArray)) (v : Value) (w : World) (hv : Tags w v ts) : Calls Try.prog 11 #[v] w fun e w' => e = .returned (.bool (decide (fewOk ts))) ∧ Below w.heap.size w w' := by
  obtain ⟨a, c0, b, o, rfl, hl, hel⟩ := hv.at
  have HEL := Lib.hid hel
  have HL64 := Lib.hid hl
  have hl2 : (ts.length : Int) ≤ 9223372036854775807 := by omega
  clear hel hv hl
  go_enter Try.func11, Try.ntmps11
  go_wp2_with fail
  go_loopw [7] (fun i wr => FRel w ts i wr) (fun i _ => ts.length - (intOf i).toNat)
  case atStart => exact ⟨0, by omega, rfl, fun j t h2 _ => absurd h2 (by omega), bq_refl w⟩
  case round =>
    obtain ⟨k, hk, rfl, hall, hbel⟩ := hrel
    by_cases hlt : k < ts.length
    · obtain ⟨⟨c, s⟩, ht⟩ : ∃ t, ts[k]? = some t := ⟨_, List.getElem?_eq_getElem hlt⟩
      obtain ⟨ha, hb, hi64, hrg0⟩ := HEL.out k c s ht
      have HALL := Lib.hid hall
      have HK := Lib.hid ht
      have HMEM := Lib.hid (List.mem_of_getElem? ht)
      have hrg := rangeAt_keep hrg0 (Below.mono hbel (Nat.le_refl _))
      clear ht hrg0
      subst ha
      have HB := Lib.hid hbel
      have i2 : (k : Int) < (ts.length : Int) := by omega
      have i1 : (0 : Int) ≤ (k : Int) := by omega
      clear hall hbel hi64 HEL
      generalize hnl : ts.length = n at *
      have HNL := Lib.hid hnl
      clear hnl
      by_cases hc : s.size ≤ 1024
      · have hc2 : (s.size : Int) ≤ 1024 := by omega
        have HAL2 : Hid (∀ j t, j < k + 1 → ts[j]? = some t → t.2.size ≤ 1024) := Lib.hid (all_step HALL.out HK.out hc)
        clear hc HALL HK HMEM
        go_wp2_with (first
          | (refine wpList_load_mid rfl 23 _ rfl b (o + k * 2) rfl [.int .i64 c, .string s] _ hrg Try.underlying23 rfl szR12 ?_)
          | (refine wl_alloc 23 _ zeR12 rfl rfl ?_; intro W21 be Be_21 l21 k21; have ge : wr.heap.size ≤ be := l21; have Hw21 := k21; clear l21 k21)
          | (refine wl_store 23 2 szR12 _ _ rfl rfl _ rfl #[.int .i64 c, .string s] rfl _ _ Be_21 rfl rfl (by kernel_rfl) ?_; intro W22 Be_22 T22; have Hw22 := T22.below Hw21 ge; clear T22 Be_21 Hw21; have ce_1_22 : W22.cell? ⟨be, 1, none⟩ = some (.string s) := Be_22.cell 1))
        go_roundw
        case rel => exact ⟨k + 1, by rw [HNL.out]; omega, by go_num, HAL2.out, bq_trans HB.out Hw22⟩
        case measure => simp [intOf]; omega
      · have hc2 : (1024 : Int) < (s.size : Int) := by omega
        have HJ : Hid (decide (fewOk ts) = false) := Lib.hid (decide_eq_false (fun hj => hc (hj.2 _ HMEM.out)))
        clear hc HALL HK HMEM
        go_wp2_with (first
          | (refine wpList_load_mid rfl 23 _ rfl b (o + k * 2) rfl [.int .i64 c, .string s] _ hrg Try.underlying23 rfl szR12 ?_)
          | (refine wl_alloc 23 _ zeR12 rfl rfl ?_; intro W21 be Be_21 l21 k21; have ge : wr.heap.size ≤ be := l21; have Hw21 := k21; clear l21 k21)
          | (refine wl_store 23 2 szR12 _ _ rfl rfl _ rfl #[.int .i64 c, .string s] rfl _ _ Be_21 rfl rfl (by kernel_rfl) ?_; intro W22 Be_22 T22; have Hw22 := T22.below Hw21 ge; clear T22 Be_21 Hw21; have ce_1_22 : W22.cell? ⟨be, 1, none⟩ = some (.string s) := Be_22.cell 1))
        go_ret
        exact ⟨ret_bool HJ.out.symm, bq_trans HB.out Hw22⟩
    · obtain rfl : k = ts.length := by omega
      have HB := Lib.hid hbel
      have HJ : Hid (decide (fewOk ts) = decide ((ts.length : Int) ≤ 300)) := Lib.hid (by
        have h1 := all_mem hall
        have e : fewOk ts ↔ (ts.length : Int) ≤ 300 := ⟨fun h => by have := h.1; omega, fun h => ⟨by omega, h1⟩⟩
        simp only [e])
      clear hall hbel HEL HL64 hlt
      generalize ts.length = n at *
      go_wp2_with fail
      go_ret
      exact ⟨ret_bool HJ.out.symm, HB.out⟩
theorem rraw_info12 : (Try.prog.info? 31).map (fun i => (i.zero, i.size, decide (i.bytes ≤ 1000))) = some (some (.agg #[.int .i64 0, .string ⟨#[]⟩]), 2, true) := by kernel_rfl
theorem rraw1_run (c : Int) (s : ByteArray) (w : World) : (Instr.buildSlice 38 1 [(0, .agg #[.int .i64 c, .string s])].toArray).run Try.prog w = .ok (.slice (some ⟨w.heap.size, 0, none⟩) 1 1) (w.alloc (.cells #[.int .i64 c, .string s] 31)) := by
  obtain ⟨ie, h1, h2⟩ := Option.map_eq_some_iff.1 rraw_info12
  have hz := congrArg (·.1) h2
  have hs : ie.size = 2 := congrArg (·.2.1) h2
  refine run_buildSlice w 38 31 1 _ _ ie _ Try.underlying38 h1 hz (by rw [hs]; decide) (by rw [hs]; decide) ?_
  rw [hs]; kernel_rfl
def RfRel (w : World) (ts : List (Int × ByteArray)) (l i : Value) (wr : World) : Prop := ∃ k : Nat, k ≤ ts.length ∧ i = .int .i64 k ∧ OwnG wr w.heap.size 31 l (ts.take k) ∧ Below w.heap.size w wr
set_option maxHeartbeats 1000000 in
theorem refs12_any (ts : List (Int × ByteArray)) (v : Value) (w : World) (hv : Tags w v ts) (hn : ts.length ≤ 1000000) : Calls Try.prog 14 #[v] w fun e w' => (∃ u, e = .returned u ∧ OwnG w' w.heap.size 31 u ts) ∧ Below w.heap.size w w' := by
  obtain ⟨a, c0, b, o, rfl, hl, hel⟩ := hv.at
  have HEL := Lib.hid hel
  have HN := Lib.hid hn
  have hn2 : (ts.length : Int) ≤ 1000000 := by omega
  clear hel hv hl hn
  go_enter Try.func14, Try.ntmps14
  go_wp2_with fail
  go_loopw [3, 8] (fun l i wr => RfRel w ts l i wr) (fun _ i _ => ts.length - (intOf i).toNat)
  case atStart => exact ⟨0, by omega, rfl, ownG_nil _ _ _, bq_refl w⟩
  case round =>
    obtain ⟨k, hk, rfl, hown, hbel⟩ := hrel
    by_cases hlt : k < ts.length
    · obtain ⟨⟨c, s⟩, ht⟩ : ∃ t, ts[k]? = some t := ⟨_, List.getElem?_eq_getElem hlt⟩
      obtain ⟨ha, hb, hi64, hrg0⟩ := HEL.out k c s ht
      have HT := Lib.hid (take_snoc ts k _ ht)
      have hrg := rangeAt_keep hrg0 (Below.mono hbel (Nat.le_refl _))
      clear ht hrg0
      subst ha
      have HB := Lib.hid hbel
      have i2 : (k : Int) < (ts.length : Int) := by omega
      have i1 : (0 : Int) ≤ (k : Int) := by omega
      have HGB := Lib.hid hown.2
      have HC64 := Lib.hid hi64
      have OM := hown.1.m
      have SM : SzM wr w.heap.size wr.heap.size := ⟨Nat.le_refl _⟩
      have hsz : w.heap.size ≤ wr.heap.size := hbel.size
      have HLE : Hid (((ts.take k).map tagC).length ≤ 1000000) := Lib.hid (by have := HN.out; rw [List.length_map, List.length_take]; omega)
      clear hown hbel hi64 HEL
      generalize ts.take k = us at *
      generalize hnl : ts.length = n at *
      have HNL := Lib.hid hnl
      clear hnl
      go_wp2_with (first
        | (refine wpList_load_mid rfl 23 _ rfl b (o + k * 2) rfl [.int .i64 c, .string s] _ hrg Try.underlying23 rfl szR12 ?_)
        | (refine wl_alloc 23 _ zeR12 rfl rfl ?_; intro W21 be Be_21 l21 k21; have ge : wr.heap.size ≤ be := l21; have loe := Nat.le_trans SM.le l21; have Ov_21 := OM.keep k21; have Om_21 := SM.keep k21; have Hw21 := k21; clear l21 k21 OM SM)
        | (refine wl_store 23 2 szR12 _ _ rfl rfl _ rfl #[.int .i64 c, .string s] rfl _ _ Be_21 rfl rfl (by kernel_rfl) ?_; intro W22 Be_22 T22; have Ov_22 := Ov_21.turned T22 (Or.inr loe); have Om_22 := Om_21.turned T22 (Or.inr loe); have Hw22 := T22.below Hw21 ge; clear T22 Ov_21 Om_21 Be_21 Hw21)
        | (refine wl_load 23 2 _ Try.underlying23 rfl szR12 _ rfl rfl _ rfl _ _ Be_22 rfl ?_)
        | (refine wlg_slice 38 31 1 _ _ (rraw1_run c s) _ rfl rfl rfl ?_; intro W23 bn Bn_23 l23 k23; have gn : wr.heap.size ≤ bn := Nat.le_trans Hw22.size l23; have nen : be ≠ bn := Nat.ne_of_lt (Nat.lt_of_lt_of_le Be_22.lt l23); have lon := Nat.le_trans Om_22.le l23; have Be_23 := Be_22.keep k23; have Ov_23 := Ov_22.keep k23; have Om_23 := Om_22.keep k23; have Hw23 := bq_trans Hw22 k23; clear l23 k23 Be_22 Ov_22 Om_22 Hw22)
        | (refine wl_appC 38 31 2 _ Try.underlying38 rraw_info12 rfl (by decide) _ _ rfl rfl w.heap.size _ rfl (us.map tagC) Ov_23.1 bn 1 _ _ rfl Bn_23 rfl (by kernel_rfl) HLE.out (Nat.le_trans hsz Om_23.le) ?_; intro vn W24 hO k24 hgr hat; have Hwn := Hw23; have OG := OwnG.snoc (t := (c, s)) HGB.out HC64.out hO))
      go_roundw
      case rel => exact ⟨k + 1, by rw [HNL.out]; omega, by go_num, by rw [HT.out]; exact OG, (bq_trans HB.out Hwn).trans k24⟩
      case measure => simp [intOf]; omega
    · obtain rfl : k = ts.length := by omega
      rw [List.take_of_length_le (Nat.le_refl _)] at hown
      have HB := Lib.hid hbel
      have HO := Lib.hid hown
      clear hown hbel HEL
      go_wp2_with fail
      go_ret
      exact ⟨⟨_, rfl, HO.out⟩, HB.out⟩
theorem qRW12 (a b : Int) (s t : ByteArray) (w : World) : (Op.equalIn 10000 31 (.agg #[.int .i64 a, .string s]) (.agg #[.int .i64 b, .string t])).run Try.prog w = .ok (decide ((a, s) = (b, t))) w := by
  have hst : s.toList = t.toList ↔ s = t := ⟨fun h => ByteArray.ext (Array.ext' (by rw [ByteArray.toList_eq, ByteArray.toList_eq] at h; exact h)), fun h => h ▸ rfl⟩
  go_simp
  repeat' split
  all_goals simp_all
theorem take_eq_snoc {xs ys : List (Int × ByteArray)} {k : Nat} {x y : Int × ByteArray} (hx : xs[k]? = some x) (hy : ys[k]? = some y) (h : xs.take k = ys.take k) (he : x = y) : xs.take (k + 1) = ys.take (k + 1) := by
  rw [take_snoc xs k x hx, take_snoc ys k y hy, h, he]
def SmRel (w : World) (xs ys : List (Int × ByteArray)) (i : Value) (wr : World) : Prop := ∃ k : Nat, k ≤ xs.length ∧ i = .int .i64 k ∧ xs.take k = ys.take k ∧ Below w.heap.size w wr
set_option maxHeartbeats 1000000 in
theorem same12_any (xs ys : List (Int × ByteArray)) (u v : Value) (w : World) (hu : Tags w u xs) (hv : Tags w v ys) : Calls Try.prog 16 #[u, v] w fun e w' => e = .returned (.bool (decide (xs = ys))) ∧ Below w.heap.size w w' := by
  obtain ⟨a, c0, b, o, rfl, hl, hel⟩ := hu.at
  obtain ⟨a2, c2, b2, o2, rfl, hl2, hel2⟩ := hv.at
  have HEL := Lib.hid hel
  have HEL2 := Lib.hid hel2
  have hi1 : (xs.length : Int) ≤ 9223372036854775807 := by omega
  have hi2 : (ys.length : Int) ≤ 9223372036854775807 := by omega
  clear hel hel2 hu hv hl hl2
  by_cases hn : xs.length = ys.length
  · have HNN := Lib.hid hn
    have hne : ((xs.length : Int) != (ys.length : Int)) = false := by rw [hn]; simp
    clear hn
    go_enter Try.func16, Try.ntmps16
    go_wp2_with fail
    go_loopw [5] (fun i wr => SmRel w xs ys i wr) (fun i _ => xs.length - (intOf i).toNat)
    case atStart => exact ⟨0, by omega, rfl, rfl, bq_refl w⟩
    case round =>
      obtain ⟨k, hk, rfl, hst, hbel⟩ := hrel
      have HS := Lib.hid hst
      have HB := Lib.hid hbel
      by_cases hlt : k < xs.length
      · have hlt2 : k < ys.length := by rw [← HNN.out]; exact hlt
        obtain ⟨⟨c, s⟩, ht⟩ : ∃ t, xs[k]? = some t := ⟨_, List.getElem?_eq_getElem hlt⟩
        obtain ⟨⟨d, t⟩, ht2⟩ : ∃ t, ys[k]? = some t := ⟨_, List.getElem?_eq_getElem hlt2⟩
        obtain ⟨ha, hb, _, hrg0⟩ := HEL.out k c s ht
        obtain ⟨ha2, hb2, _, hrg1⟩ := HEL2.out k d t ht2
        have hrg := rangeAt_keep hrg0 (Below.mono hbel (Nat.le_refl _))
        have hrg2 := rangeAt_keep hrg1 (Below.mono hbel (Nat.le_refl _))
        have r0 : wr.cell? ⟨b, o + k * 2, none⟩ = some (.int .i64 c) := hrg 0 _ rfl
        have r1 : wr.cell? ⟨b, o + k * 2 + 1, none⟩ = some (.string s) := hrg 1 _ rfl
        have r2 : wr.cell? ⟨b2, o2 + k * 2, none⟩ = some (.int .i64 d) := hrg2 0 _ rfl
        have r3 : wr.cell? ⟨b2, o2 + k * 2 + 1, none⟩ = some (.string t) := hrg2 1 _ rfl
        have HT := Lib.hid (take_eq_snoc ht ht2 HS.out)
        have HNe : Hid ((c, s) ≠ (d, t) → xs ≠ ys) := Lib.hid (fun hne he => hne (by
          rw [he, ht2] at ht
          exact (Option.some.inj ht).symm))
        subst ha ha2
        have q0 := fun W => qRW12 c d s t W
        have i1 : (0 : Int) ≤ (k : Int) := by omega
        have i2 : (k : Int) < (xs.length : Int) := by omega
        have i3 : (k : Int) < (ys.length : Int) := by omega
        clear ht ht2 hrg hrg2 hrg0 hrg1 hst hbel HS HEL HEL2
        generalize ys.length = m at *
        generalize hnl : xs.length = n at *
        have HNL := Lib.hid hnl
        clear hnl
        cases qq : decide ((c, s) = (d, t))
        · rw [qq] at q0
          have HL : Hid (decide (xs = ys) = false) := Lib.hid (decide_eq_false (HNe.out (of_decide_eq_false qq)))
          clear HT HNe qq
          go_wp2_with fail
          go_quiet (fail)
          have hb9 : Below wr.heap.size wr (wr.drewN nq) := bq_drewN (bq_refl wr) nq
          go_wp2_with fail
          go_ret
          exact ⟨ret_bool HL.out.symm, bq_trans HB.out hb9⟩
        · rw [qq] at q0
          have HL := Lib.hid (HT.out (of_decide_eq_true qq))
          clear HT HNe qq
          go_wp2_with fail
          go_quiet (fail)
          have hb9 : Below wr.heap.size wr (wr.drewN nq) := bq_drewN (bq_refl wr) nq
          go_wp2_with fail
          go_roundw
          case rel => exact ⟨k + 1, by rw [HNL.out]; omega, by go_num, HL.out, bq_trans HB.out hb9⟩
          case measure => simp [intOf]; omega
      · obtain rfl : k = xs.length := by omega
        have HL : Hid (decide (xs = ys) = true) := Lib.hid (decide_eq_true (by
          have h1 := HS.out
          rw [List.take_length] at h1
          rw [h1, HNN.out, List.take_length]))
        clear hst hbel HS HEL HEL2 hlt
        go_wp2_with fail
        go_ret
        exact ⟨ret_bool HL.out.symm, HB.out⟩
  · have hne : ((xs.length : Int) != (ys.length : Int)) = true := bne_iff_ne.2 (by omega)
    have HL : Hid (decide (xs = ys) = false) := Lib.hid (decide_eq_false fun h => hn (by rw [h]))
    clear hn HEL HEL2
    generalize xs.length = n at *
    generalize ys.length = m at *
    go_enter Try.func16, Try.ntmps16
    go_wp2_with fail
    go_ret
    exact ⟨ret_bool HL.out.symm, bq_refl w⟩
end Go.Proofs.Ytffcfcgkpebdoaa
namespace Go.Proofs.Ytffcfcgkpebdoaa
open Go.RowKit
set_option linter.unusedVariables false
set_option linter.unusedSimpArgs false
set_option maxRecDepth 100000
theorem qRT12 (a b : Int) (s t : ByteArray) (w : World) : (Op.equalIn 10000 23 (.agg #[.int .i64 a, .string s]) (.agg #[.int .i64 b, .string t])).run Try.prog w = .ok (decide ((a, s) = (b, t))) w := by
  have hst : s.toList = t.toList ↔ s = t := ⟨fun h => ByteArray.ext (Array.ext' (by rw [ByteArray.toList_eq, ByteArray.toList_eq] at h; exact h)), fun h => h ▸ rfl⟩
  go_simp
  repeat' split
  all_goals simp_all
theorem qRT12_same (a : Int) (s : ByteArray) (w : World) : (Op.equalIn 10000 23 (.agg #[.int .i64 a, .string s]) (.agg #[.int .i64 a, .string s])).run Try.prog w = .ok true w := by rw [qRT12]; simp
theorem awJ (W : World) : Calls Try.prog 12 #[.slice none 0 0] W fun e w' => e = .returned (.tuple #[.string ⟨#[0, 0]⟩, .int .i64 0]) ∧ Below W.heap.size W w' := by
  have h := join12_any [] (.slice none 0 0) W (sl_nil W 2 TagR) (fun t ht => by simp at ht)
  rw [joinV_yes ⟨by decide, fun t ht => by simp at ht⟩] at h
  exact h
theorem awP (W : World) : Calls Try.prog 8 #[.agg #[.int .i64 1, .string ⟨#[]⟩]] W fun e w' => e = .returned (.tuple #[.string ⟨#[64, 0]⟩, .int .i64 0]) ∧ Below W.heap.size W w' :=
  put12_ok 1 ⟨#[]⟩ W (by decide) (by decide)
theorem awS (W : World) : Calls Try.prog 15 #[.string ⟨#[65, 0, 120, 0, 0, 121]⟩] W fun e w' => (∃ g o c, e = .returned (.tuple #[.slice (some ⟨g, o, none⟩) 1 c, .string ⟨#[121]⟩, .int .i64 0]) ∧ w'.rangeAt g o [.int .i64 1, .string ⟨#[120]⟩]) ∧ Below W.heap.size W w' := by
  refine (split12_any ⟨#[65, 0, 120, 0, 0, 121]⟩ W (by decide)).mono fun e w' ⟨h, hb⟩ => ⟨?_, hb⟩
  have hs : TG.split 256 (⟨#[65, 0, 120, 0, 0, 121]⟩ : ByteArray).data.toList = .ok ([(1, [120])], [121]) := by rfl
  unfold SplitP at h
  rw [hs] at h
  obtain ⟨v, rfl, hO⟩ := h
  obtain ⟨a, c, b, o, rfl, _, hx⟩ := hO.tags.at
  obtain ⟨rfl, _, _, hr⟩ := hx 0 1 ⟨#[120]⟩ rfl
  rw [Nat.zero_mul, Nat.add_zero] at hr
  exact ⟨b, o, c, rfl, hr⟩
set_option maxHeartbeats 1000000 in
theorem awake12_any (w : World) : Calls Try.prog 7 #[] w fun e w' => e = .returned (.bool true) ∧ Below w.heap.size w w' := by
  have q := fun W => qRT12_same 1 ⟨#[120]⟩ W
  go_enter Try.func7, Try.ntmps7
  go_wp2_with (first
    | (go_at_call 12; (with_reducible refine (awJ _).mono ?_); rintro e W1 ⟨rfl, k1⟩)
    | (go_at_call 8; (with_reducible refine (awP _).mono ?_); rintro e W2 ⟨rfl, k2⟩; have Hw2 := bq_trans k1 k2; clear k1 k2)
    | (go_at_call 15; (with_reducible refine (awS _).mono ?_); rintro e W3 ⟨⟨g, o, c, rfl, hr⟩, k3⟩; have Hw3 := bq_trans Hw2 k3; clear k3 Hw2; have c0 : W3.cell? ⟨g, o, none⟩ = some (.int .i64 1) := hr 0 _ rfl; have c1 : W3.cell? ⟨g, o + 1, none⟩ = some (.string ⟨#[120]⟩) := hr 1 _ rfl; clear hr))
  go_ret
  exact ⟨rfl, Hw3⟩
end Go.Proofs.Ytffcfcgkpebdoaa
namespace Go.Proofs.Ytffcfcgkpebdoaa
open Go.RowKit
set_option linter.unusedVariables false
set_option linter.unusedSimpArgs false
set_option maxRecDepth 100000
theorem few_no {ts : List (Int × ByteArray)} {v : Value} {W : World} (hv : Tags W v ts) (h : ¬ fewOk ts) : Calls Try.prog 11 #[v] W fun e w' => e = .returned (.bool false) ∧ Below W.heap.size W w' :=
  (few12_any ts v W hv).mono fun e w' ⟨h1, h2⟩ => ⟨by rw [h1, decide_eq_false h], h2⟩
theorem few_yes {ts : List (Int × ByteArray)} {v : Value} {W : World} (hv : Tags W v ts) (h : fewOk ts) : Calls Try.prog 11 #[v] W fun e w' => e = .returned (.bool true) ∧ Below W.heap.size W w' :=
  (few12_any ts v W hv).mono fun e w' ⟨h1, h2⟩ => ⟨by rw [h1, decide_eq_true h], h2⟩
theorem sizes_a (ts : List (Int × ByteArray)) (a : Option Addr) (c : Nat) (w : World) (hv : Tags w (.slice a ts.length c) ts) (h : ¬ fewOk ts) : Calls Try.prog 6 #[.slice a ts.length c] w fun e w' => e = .returned (.bool true) ∧ Below w.heap.size w w' := by
  have HF := Lib.hid (few_no hv h)
  clear hv h
  generalize ts.length = n at *
  go_enter Try.func6, Try.ntmps6
  go_wp2_with (first
    | (go_at_call 11; (with_reducible refine (HF.out).mono ?_); rintro e W1 ⟨rfl, k1⟩; have Hw1 := bq_trans (bq_refl w) k1; clear k1)
    | (go_at_call 7; (with_reducible refine (awake12_any _).mono ?_); rintro e W2 ⟨rfl, k2⟩; have Hw2 := bq_trans Hw1 k2; clear k2))
  go_ret
  exact ⟨rfl, Hw2⟩
theorem sizes_b (ts : List (Int × ByteArray)) (a : Option Addr) (c : Nat) (w : World) (hv : Tags w (.slice a ts.length c) ts) (h : fewOk ts) (hl : (256 : Int) < (ts.length : Int)) : Calls Try.prog 6 #[.slice a ts.length c] w fun e w' => e = .returned (.bool true) ∧ Below w.heap.size w w' := by
  have HF := Lib.hid (few_yes hv h)
  clear hv h
  generalize ts.length = n at *
  go_enter Try.func6, Try.ntmps6
  go_wp2_with (first
    | (go_at_call 11; (with_reducible refine (HF.out).mono ?_); rintro e W1 ⟨rfl, k1⟩; have Hw1 := bq_trans (bq_refl w) k1; clear k1)
    | (go_at_call 7; (with_reducible refine (awake12_any _).mono ?_); rintro e W2 ⟨rfl, k2⟩; have Hw2 := bq_trans Hw1 k2; clear k2))
  go_ret
  exact ⟨rfl, Hw2⟩
def lenB (ts : List (Int × ByteArray)) : Nat := (TG.tagsB (toL ts)).length
def ZRel (w : World) (ts : List (Int × ByteArray)) (m i : Value) (wr : World) : Prop :=
  ∃ k : Nat, k ≤ ts.length ∧ i = .int .i64 k ∧ m = .int .i64 ((2 + lenB (ts.take k) : Nat) : Int) ∧ (∀ j t, j < k → ts[j]? = some t → 1 ≤ t.1 ∧ t.1 ≤ 1023) ∧ Below w.heap.size w wr
theorem lenB_le (ts : List (Int × ByteArray)) (h : ∀ t ∈ ts, t.2.size ≤ 1024) (hn : ts.length ≤ 256) (k : Nat) : lenB (ts.take k) ≤ 1000000 := by
  have H : ∀ us : List (Int × ByteArray), (∀ t ∈ us, t.2.size ≤ 1024) → lenB us ≤ us.length * 1030 := by
    intro us
    induction us with
    | nil => intro _; exact Nat.zero_le _
    | cons t us ih =>
      intro hu
      have h1 := ih fun x hx => hu x (by simp [hx])
      have h2 := hu t (by simp)
      show (TG.one t.1.toNat t.2.data.toList ++ TG.tagsB (toL us)).length ≤ _
      rw [List.length_append, TG.one_len, bytes_length, List.length_cons, Nat.add_mul]
      unfold lenB at h1
      split <;> omega
  have h1 := H (ts.take k) fun t ht => h t (List.mem_of_mem_take ht)
  have h2 : (ts.take k).length ≤ 256 := by rw [List.length_take]; omega
  have h3 : (ts.take k).length * 1030 ≤ 256 * 1030 := Nat.mul_le_mul_right _ h2
  omega
set_option maxHeartbeats 1000000 in
theorem sizes_c (ts : List (Int × ByteArray)) (a : Option Addr) (c0 : Nat) (w : World) (hv : Tags w (.slice a ts.length c0) ts) (h : fewOk ts) (hl : ts.length ≤ 256) : Calls Try.prog 6 #[.slice a ts.length c0] w fun e w' => e = .returned (.bool true) ∧ Below w.heap.size w w' := by
  have HF := Lib.hid (few_yes hv h)
  have HLB := Lib.hid (lenB_le ts h.2 hl)
  have HFW := Lib.hid h
  have HV := Lib.hid hv
  obtain ⟨a', c', b, o, hsl, _, hel⟩ := hv.at
  simp only [Value.slice.injEq] at hsl
  obtain ⟨ha', _, hc'⟩ := hsl
  subst ha' hc'
  have HEL := Lib.hid hel
  have HJ := Lib.hid fun W (hW : Tags W (.slice a ts.length c0) ts) => join12_any ts (.slice a ts.length c0) W hW fun t ht => by have := h.2 t ht; omega
  have hl2 : (ts.length : Int) ≤ 256 := by omega
  have HL := Lib.hid hl
  clear hel hv h hl
  go_enter Try.func6, Try.ntmps6
  go_wp2_with (first
    | (go_at_call 11; (with_reducible refine (HF.out).mono ?_); rintro e W1 ⟨rfl, k1⟩; have Hw1 := bq_trans (bq_refl w) k1; clear k1))
  go_loopw [3, 22] (fun m i wr => ZRel w ts m i wr) (fun _ i _ => ts.length - (intOf i).toNat)
  case atStart => exact ⟨0, by omega, rfl, rfl, fun j t h2 _ => absurd h2 (by omega), Hw1⟩
  case round =>
    obtain ⟨k, hk, rfl, rfl, hall, hbel⟩ := hrel
    clear Hw1
    by_cases hlt : k < ts.length
    · obtain ⟨⟨c, s⟩, ht⟩ : ∃ t, ts[k]? = some t := ⟨_, List.getElem?_eq_getElem hlt⟩
      obtain ⟨ha, hb, hi64, hrg0⟩ := HEL.out k c s ht
      have HALL := Lib.hid hall
      have HT := Lib.hid (take_snoc ts k _ ht)
      have HK := Lib.hid ht
      have hsz := HFW.out.2 _ (List.mem_of_getElem? ht)
      dsimp only at hsz
      have hrg := rangeAt_keep hrg0 (Below.mono hbel (Nat.le_refl _))
      clear ht hrg0
      subst ha
      have HB := Lib.hid hbel
      have i2 : (k : Int) < (ts.length : Int) := by omega
      have i1 : (0 : Int) ≤ (k : Int) := by omega
      have hLB := HLB.out k
      clear hall hbel hi64 HEL HFW HF HJ HV HLB
      generalize hnl : ts.length = n at *
      have HNL := Lib.hid hnl
      clear hnl
      by_cases hc : 1 ≤ c ∧ c ≤ 1023
      · have hc1 : 1 ≤ c := hc.1
        have hc2 : c ≤ 1023 := hc.2
        have HPUT : Hid (∀ W, Calls Try.prog 8 #[.agg #[.int .i64 c, .string s]] W fun e w' => e = .returned (.tuple #[.string (piece (c, s)), .int .i64 0]) ∧ Below W.heap.size W w') := Lib.hid fun W => by
          obtain ⟨C, rfl⟩ := Int.eq_ofNat_of_zero_le (show 0 ≤ c by omega)
          exact put12_ok C s W (by omega) (by omega)
        have hpz : (piece (c, s)).size = (if s.size < 63 then 2 else 6) + s.size := by
          rw [piece, bs_size, TG.one_len]
          dsimp only
          rw [bytes_length]
        have HNX : Hid (lenB (ts.take (k + 1)) = lenB (ts.take k) + (piece (c, s)).size) := Lib.hid (by
          have e : toL (ts.take k ++ [(c, s)]) = toL (ts.take k) ++ [(c.toNat, s.data.toList)] := by simp [toL]
          rw [HT.out]
          unfold lenB
          rw [e, TG.tagsB_snoc, List.length_append]
          rfl)
        have HAL2 := Lib.hid (all_step (P := fun t => 1 ≤ t.1 ∧ t.1 ≤ 1023) HALL.out HK.out hc)
        have hs2 : (s.size : Int) ≤ 1024 := by omega
        clear hc HALL HT HK
        generalize lenB (ts.take k) = m at *
        generalize piece (c, s) = pc at *
        by_cases h63 : s.size < 63
        · rw [if_pos h63] at hpz
          rw [hpz] at HNX
          have h62 : (s.size : Int) ≤ 62 := by omega
          have hpi : (pc.size : Int) = 2 + (s.size : Int) := by omega
          clear hpz h63
          go_wp2_with (first
            | (refine wpList_load_mid rfl 23 _ rfl b (o + k * 2) rfl [.int .i64 c, .string s] _ hrg Try.underlying23 rfl szR12 ?_)
            | (refine wl_alloc 23 _ zeR12 rfl rfl ?_; intro W21 be Be_21 l21 k21; have ge : wr.heap.size ≤ be := l21; have Hw21 := k21; clear l21 k21)
            | (refine wl_store 23 2 szR12 _ _ rfl rfl _ rfl #[.int .i64 c, .string s] rfl _ _ Be_21 rfl rfl (by kernel_rfl) ?_; intro W22 Be_22 T22; have Hw22 := T22.below Hw21 ge; clear T22 Be_21 Hw21; have ce_0_22 : W22.cell? ⟨be, 0, none⟩ = some (.int .i64 c) := Be_22.cell 0; have ce_1_22 : W22.cell? ⟨be, 1, none⟩ = some (.string s) := Be_22.cell 1)
            | (refine wl_load 23 2 _ Try.underlying23 rfl szR12 _ rfl rfl _ rfl _ _ Be_22 rfl ?_)
            | (go_at_call 8; (with_reducible refine (HPUT.out _).mono ?_); rintro e W23 ⟨rfl, k23⟩; have Be_23 := Be_22.keep k23; have Hw23 := bq_trans Hw22 k23; clear k23 Be_22 ce_0_22 ce_1_22 Hw22; have ce_0_23 : W23.cell? ⟨be, 0, none⟩ = some (.int .i64 c) := Be_23.cell 0; have ce_1_23 : W23.cell? ⟨be, 1, none⟩ = some (.string s) := Be_23.cell 1))
          go_roundw
          case rel => exact ⟨k + 1, by rw [HNL.out]; omega, by go_num, by rw [HNX.out]; go_num, HAL2.out, bq_trans HB.out Hw23⟩
          case measure => simp [intOf]; omega
        · rw [if_neg h63] at hpz
          rw [hpz] at HNX
          have h62 : (62 : Int) < (s.size : Int) := by omega
          have hpi : (pc.size : Int) = 2 + (s.size : Int) + 4 := by omega
          clear hpz h63
          go_wp2_with (first
            | (refine wpList_load_mid rfl 23 _ rfl b (o + k * 2) rfl [.int .i64 c, .string s] _ hrg Try.underlying23 rfl szR12 ?_)
            | (refine wl_alloc 23 _ zeR12 rfl rfl ?_; intro W21 be Be_21 l21 k21; have ge : wr.heap.size ≤ be := l21; have Hw21 := k21; clear l21 k21)
            | (refine wl_store 23 2 szR12 _ _ rfl rfl _ rfl #[.int .i64 c, .string s] rfl _ _ Be_21 rfl rfl (by kernel_rfl) ?_; intro W22 Be_22 T22; have Hw22 := T22.below Hw21 ge; clear T22 Be_21 Hw21; have ce_0_22 : W22.cell? ⟨be, 0, none⟩ = some (.int .i64 c) := Be_22.cell 0; have ce_1_22 : W22.cell? ⟨be, 1, none⟩ = some (.string s) := Be_22.cell 1)
            | (refine wl_load 23 2 _ Try.underlying23 rfl szR12 _ rfl rfl _ rfl _ _ Be_22 rfl ?_)
            | (go_at_call 8; (with_reducible refine (HPUT.out _).mono ?_); rintro e W23 ⟨rfl, k23⟩; have Be_23 := Be_22.keep k23; have Hw23 := bq_trans Hw22 k23; clear k23 Be_22 ce_0_22 ce_1_22 Hw22; have ce_0_23 : W23.cell? ⟨be, 0, none⟩ = some (.int .i64 c) := Be_23.cell 0; have ce_1_23 : W23.cell? ⟨be, 1, none⟩ = some (.string s) := Be_23.cell 1))
          go_roundw
          case rel => exact ⟨k + 1, by rw [HNL.out]; omega, by go_num, by rw [HNX.out]; go_num, HAL2.out, bq_trans HB.out Hw23⟩
          case measure => simp [intOf]; omega
      · clear HALL HT HK
        rcases (show c < 1 ∨ 1023 < c by omega) with hc | hc
        all_goals
          go_wp2_with (first
            | (refine wpList_load_mid rfl 23 _ rfl b (o + k * 2) rfl [.int .i64 c, .string s] _ hrg Try.underlying23 rfl szR12 ?_)
            | (refine wl_alloc 23 _ zeR12 rfl rfl ?_; intro W21 be Be_21 l21 k21; have ge : wr.heap.size ≤ be := l21; have Hw21 := k21; clear l21 k21)
            | (refine wl_store 23 2 szR12 _ _ rfl rfl _ rfl #[.int .i64 c, .string s] rfl _ _ Be_21 rfl rfl (by kernel_rfl) ?_; intro W22 Be_22 T22; have Hw22 := T22.below Hw21 ge; clear T22 Be_21 Hw21; have ce_0_22 : W22.cell? ⟨be, 0, none⟩ = some (.int .i64 c) := Be_22.cell 0; have ce_1_22 : W22.cell? ⟨be, 1, none⟩ = some (.string s) := Be_22.cell 1)
            | (go_at_call 7; (with_reducible refine (awake12_any _).mono ?_); rintro e W23 ⟨rfl, k23⟩; have Be_23 := Be_22.keep k23; have Hw23 := bq_trans Hw22 k23; clear k23 Be_22 ce_0_22 ce_1_22 Hw22))
          go_ret
          exact ⟨rfl, bq_trans HB.out Hw23⟩
    · obtain rfl : k = ts.length := by omega
      rw [List.take_of_length_le (Nat.le_refl _)]
      have HB := Lib.hid hbel
      have HJ2 : Hid (∀ W, Tags W (.slice a ts.length c0) ts → Calls Try.prog 12 #[.slice a ts.length c0] W fun e w' => e = .returned (.tuple #[.string (bs (TG.listB (toL ts))), .int .i64 0]) ∧ Below W.heap.size W w') := Lib.hid fun W hW => by
        have h1 := HJ.out W hW
        rw [joinV_yes ⟨HL.out, all_mem hall⟩] at h1
        exact h1
      have HT : Hid (Tags wr (.slice a ts.length c0) ts) := Lib.hid (HV.out.keep tag_lasts (Below.mono hbel (Nat.le_refl _)))
      have hlb : ((bs (TG.listB (toL ts))).size : Int) = ((2 + lenB ts : Nat) : Int) := by
        rw [bs_size, TG.listB, List.length_append]
        unfold lenB
        simp only [List.length_cons, List.length_nil]
        omega
      have hLB := HLB.out ts.length
      rw [List.take_of_length_le (Nat.le_refl _)] at hLB
      clear hall hbel HJ HEL HV HFW HF hlt HLB HL
      generalize lenB ts = m at *
      generalize bs (TG.listB (toL ts)) = u at *
      generalize ts.length = n at *
      go_wp2_with (first
        | (go_at_call 12; (with_reducible refine (HJ2.out _ HT.out).mono ?_); rintro e W1 ⟨rfl, k1⟩; have Hw1 := bq_trans HB.out k1; clear k1)
        | (go_at_call 7; (with_reducible refine (awake12_any _).mono ?_); rintro e W2 ⟨rfl, k2⟩; have Hw2 := bq_trans Hw1 k2; clear k2))
      go_ret
      exact ⟨rfl, Hw2⟩
theorem tagSizes_walk (ts : List (Int × ByteArray)) (v : Value) (w : World) (hv : Tags w v ts) : Calls Try.prog 6 #[v] w fun e w' => e = .returned (.bool true) ∧ Below w.heap.size w w' := by
  obtain ⟨a, c, b, o, rfl, _, _⟩ := hv.at
  by_cases h : fewOk ts
  · by_cases hl : ts.length ≤ 256
    · exact sizes_c ts a c w hv h hl
    · exact sizes_b ts a c w hv h (by omega)
  · exact sizes_a ts a c w hv h
end Go.Proofs.Ytffcfcgkpebdoaa
namespace Go.Proofs.Ytffcfcgkpebdoaa
open Go.RowKit
set_option linter.unusedVariables false
set_option linter.unusedSimpArgs false
set_option maxRecDepth 100000
theorem tags_keep {w w' : World} {v : Value} {ts : List (Int × ByteArray)} (h : Tags w v ts) (hb : Below w.heap.size w w') : Tags w' v ts := h.keep tag_lasts hb
theorem refsP (ts : List (Int × ByteArray)) (v : Value) (W : World) (hv : Tags W v ts) (hn : ts.length ≤ 1000000) : Calls Try.prog 14 #[v] W fun e w' => (∃ u n c, e = .returned (.slice u n c) ∧ Tags w' (.slice u n c) ts) ∧ Below W.heap.size W w' :=
  (refs12_any ts v W hv hn).mono fun e w' ⟨⟨u, he, hu⟩, hb⟩ => by
    obtain ⟨a, c, hv⟩ := own_len hu
    subst hv
    exact ⟨⟨a, _, c, he, hu.tags⟩, hb⟩
theorem splitP_at {s : ByteArray} {ts : List (Nat × List UInt8)} {r : List UInt8} (W : World) (hs : s.size ≤ 1000000) (h : TG.split 256 s.data.toList = .ok (ts, r)) : Calls Try.prog 15 #[.string s] W fun e w' => (∃ u c, e = .returned (.tuple #[.slice u ts.length c, .string (bs r), .int .i64 0]) ∧ Tags w' (.slice u ts.length c) (ofL ts)) ∧ Below W.heap.size W w' :=
  (split12_any s W hs).mono fun e w' ⟨hp, hb⟩ => by
    unfold SplitP at hp
    rw [h] at hp
    obtain ⟨v, he, hO⟩ := hp
    obtain ⟨a, c, hv⟩ := own_len hO
    subst hv
    have ht := hO.tags
    rw [ofL_len] at he ht
    exact ⟨⟨a, c, he, ht⟩, hb⟩
theorem splitP_er {s : ByteArray} {x : Int} (W : World) (hs : s.size ≤ 1000000) (h : TG.split 256 s.data.toList = .error x) : Calls Try.prog 15 #[.string s] W fun e w' => e = .returned (.tuple #[.slice none 0 0, .string ⟨#[]⟩, .int .i64 x]) ∧ Below W.heap.size W w' :=
  (split12_any s W hs).mono fun e w' ⟨hp, hb⟩ => by
    unfold SplitP at hp
    rw [h] at hp
    exact ⟨hp, hb⟩
theorem samePs (xs : List (Int × ByteArray)) (u v : Value) (W : World) (hu : Tags W u xs) (hv : Tags W v xs) : Calls Try.prog 16 #[u, v] W fun e w' => e = .returned (.bool true) ∧ Below W.heap.size W w' :=
  (same12_any xs xs u v W hu hv).mono fun e w' ⟨h1, h2⟩ => ⟨by rw [h1]; simp, h2⟩
theorem joins_a (ts : List (Int × ByteArray)) (a : Option Addr) (c0 : Nat) (m : ByteArray) (w : World) (hv : Tags w (.slice a ts.length c0) ts) (h : ¬ fewOk ts) : Calls Try.prog 4 #[.slice a ts.length c0, .string m] w fun e w' => e = .returned (.bool true) ∧ Below w.heap.size w w' := by
  have HF := Lib.hid (few_no hv h)
  clear hv h
  generalize ts.length = n at *
  go_enter Try.func4, Try.ntmps4
  go_wp2_with (first
    | (go_at_call 11; (with_reducible refine (HF.out).mono ?_); rintro e W1 ⟨rfl, k1⟩; have Hw1 := bq_trans (bq_refl w) k1)
    | (go_at_call 7; (with_reducible refine (awake12_any _).mono ?_); rintro e W2 ⟨rfl, k2⟩; have Hw2 := bq_trans Hw1 k2))
  go_ret
  exact ⟨rfl, Hw2⟩
theorem joins_b (ts : List (Int × ByteArray)) (a : Option Addr) (c0 : Nat) (m : ByteArray) (w : World) (hv : Tags w (.slice a ts.length c0) ts) (h : fewOk ts) (hm : (1024 : Int) < (m.size : Int)) : Calls Try.prog 4 #[.slice a ts.length c0, .string m] w fun e w' => e = .returned (.bool true) ∧ Below w.heap.size w w' := by
  have HF := Lib.hid (few_yes hv h)
  clear hv h
  generalize ts.length = n at *
  go_enter Try.func4, Try.ntmps4
  go_wp2_with (first
    | (go_at_call 11; (with_reducible refine (HF.out).mono ?_); rintro e W1 ⟨rfl, k1⟩; have Hw1 := bq_trans (bq_refl w) k1)
    | (go_at_call 7; (with_reducible refine (awake12_any _).mono ?_); rintro e W2 ⟨rfl, k2⟩; have Hw2 := bq_trans Hw1 k2))
  go_ret
  exact ⟨rfl, Hw2⟩
theorem joins_c (ts : List (Int × ByteArray)) (a : Option Addr) (c0 : Nat) (m : ByteArray) (w : World) (hv : Tags w (.slice a ts.length c0) ts) (h : fewOk ts) (hm : (m.size : Int) ≤ 1024) (hj : ¬ joinOk ts) : Calls Try.prog 4 #[.slice a ts.length c0, .string m] w fun e w' => e = .returned (.bool true) ∧ Below w.heap.size w w' := by
  have HF := Lib.hid (few_yes hv h)
  have HJ : Hid (∀ (v : Value) (W : World), Tags W v ts → Calls Try.prog 12 #[v] W fun e w' => e = .returned (.tuple #[.string ⟨#[]⟩, .int .i64 1]) ∧ Below W.heap.size W w') := Lib.hid fun v W hW => joinV_no hj ▸ join12_any ts v W hW fun t ht => by have := h.2 t ht; omega
  have HRJ : Hid (∀ (v : Value) (W : World), Tags W v ts → Calls Try.prog 13 #[v] W fun e w' => e = .returned (.tuple #[.string ⟨#[]⟩, .bool false]) ∧ Below W.heap.size W w') := Lib.hid fun v W hW => rjoinV_no hj ▸ rjoin12_any ts v W hW (by have := h.1; omega) fun t ht => by have := h.2 t ht; omega
  have HR : Hid (∀ (v : Value) (W : World), Tags W v ts → Calls Try.prog 14 #[v] W fun e w' => (∃ u n c, e = .returned (.slice u n c) ∧ Tags w' (.slice u n c) ts) ∧ Below W.heap.size W w') := Lib.hid fun v W hW => refsP ts v W hW (by have := h.1; omega)
  have HV := Lib.hid hv
  clear hv h hj
  generalize ts.length = n at *
  go_enter Try.func4, Try.ntmps4
  go_wp2_with (first
    | (go_at_call 11; (with_reducible refine (HF.out).mono ?_); rintro e W1 ⟨rfl, k1⟩; have V1 := tags_keep HV.out k1; have Hw1 := bq_trans (bq_refl w) k1)
    | (go_at_call 12; (with_reducible refine (HJ.out _ _ V1).mono ?_); rintro e W2 ⟨rfl, k2⟩; have V2 := tags_keep V1 k2; have Hw2 := bq_trans Hw1 k2)
    | (go_at_call 14; (with_reducible refine (HR.out _ _ V2).mono ?_); rintro e W3 ⟨⟨u, n3, c3, rfl, U3⟩, k3⟩; have Hw3 := bq_trans Hw2 k3)
    | (go_at_call 13; (with_reducible refine (HRJ.out _ _ U3).mono ?_); rintro e W4 ⟨rfl, k4⟩; have Hw4 := bq_trans Hw3 k4)
    | (go_at_call 7; (with_reducible refine (awake12_any _).mono ?_); rintro e W5 ⟨rfl, k5⟩; have Hw5 := bq_trans Hw4 k5))
  go_ret
  exact ⟨rfl, Hw5⟩
set_option maxHeartbeats 1000000 in
theorem joins_d (ts : List (Int × ByteArray)) (a : Option Addr) (c0 : Nat) (m : ByteArray) (w : World) (hv : Tags w (.slice a ts.length c0) ts) (h : fewOk ts) (hm : m.size ≤ 1024) (hj : joinOk ts) : Calls Try.prog 4 #[.slice a ts.length c0, .string m] w fun e w' => e = .returned (.bool true) ∧ Below w.heap.size w w' := by
  have HF := Lib.hid (few_yes hv h)
  have HJ : Hid (∀ (v : Value) (W : World), Tags W v ts → Calls Try.prog 12 #[v] W fun e w' => e = .returned (.tuple #[.string (bs (TG.listB (toL ts))), .int .i64 0]) ∧ Below W.heap.size W w') := Lib.hid fun v W hW => joinV_yes hj ▸ join12_any ts v W hW fun t ht => by have := h.2 t ht; omega
  have HRJ : Hid (∀ (v : Value) (W : World), Tags W v ts → Calls Try.prog 13 #[v] W fun e w' => e = .returned (.tuple #[.string (bs (TG.listB (toL ts))), .bool true]) ∧ Below W.heap.size W w') := Lib.hid fun v W hW => rjoinV_yes hj ▸ rjoin12_any ts v W hW (by have := h.1; omega) fun t ht => by have := h.2 t ht; omega
  have HR : Hid (∀ (v : Value) (W : World), Tags W v ts → Calls Try.prog 14 #[v] W fun e w' => (∃ u n c, e = .returned (.slice u n c) ∧ Tags w' (.slice u n c) ts) ∧ Below W.heap.size W w') := Lib.hid fun v W hW => refsP ts v W hW (by have := h.1; omega)
  have hlb := lenB_le ts h.2 hj.1 ts.length
  rw [List.take_of_length_le (Nat.le_refl _)] at hlb
  have hz : (bs (TG.listB (toL ts))).size ≤ 1000000 - 1024 := by
    have h3 : lenB ts ≤ 256 * 1030 := by
      have H : ∀ us : List (Int × ByteArray), (∀ t ∈ us, t.2.size ≤ 1024) → lenB us ≤ us.length * 1030 := by
        intro us
        induction us with
        | nil => intro _; exact Nat.zero_le _
        | cons t us ih =>
          intro hu
          have h1 := ih fun x hx => hu x (by simp [hx])
          have h2 := hu t (by simp)
          show (TG.one t.1.toNat t.2.data.toList ++ TG.tagsB (toL us)).length ≤ _
          rw [List.length_append, TG.one_len, bytes_length, List.length_cons, Nat.add_mul]
          unfold lenB at h1
          split <;> omega
      have h1 := H ts h.2
      have h2 : ts.length * 1030 ≤ 256 * 1030 := Nat.mul_le_mul_right _ hj.1
      omega
    rw [bs_size, TG.listB, List.length_append]
    unfold lenB at h3
    simp only [List.length_cons, List.length_nil]
    omega
  have hsp : TG.split 256 (bs (TG.listB (toL ts)) ++ m).data.toList = .ok (toL ts, m.data.toList) := by
    have e : (bs (TG.listB (toL ts)) ++ m).data.toList = TG.listB (toL ts) ++ m.data.toList := by rw [ByteArray.data_append, Array.toList_append]; rfl
    rw [e]
    refine TG.split_list _ _ _ (fun t ht => ?_) (by rw [toL_len]; exact hj.1)
    obtain ⟨u, hu, rfl⟩ := List.mem_map.1 ht
    have h1 := hj.2 u hu
    have h2 := h.2 u hu
    refine ⟨?_, ?_, ?_⟩
    · show 1 ≤ u.1.toNat; omega
    · show u.1.toNat ≤ 1023; omega
    · show u.2.data.toList.length < _; rw [bytes_length]; omega
  have HS : Hid (∀ W, Calls Try.prog 15 #[.string (bs (TG.listB (toL ts)) ++ m)] W fun e w' => (∃ u n c, e = .returned (.tuple #[.slice u n c, .string m, .int .i64 0]) ∧ Tags w' (.slice u n c) ts) ∧ Below W.heap.size W w') := Lib.hid fun W =>
    (splitP_at W (by rw [ByteArray.size_append]; omega) hsp).mono fun e w' ⟨⟨u, c, h1, h2⟩, hb⟩ => by
      rw [bs_of] at h1
      rw [ofL_toL fun t ht => by have := (hj.2 t ht).1; omega] at h2
      exact ⟨⟨u, _, c, h1, h2⟩, hb⟩
  have HSM : Hid (∀ (u v : Value) (W : World), Tags W u ts → Tags W v ts → Calls Try.prog 16 #[u, v] W fun e w' => e = .returned (.bool true) ∧ Below W.heap.size W w') := Lib.hid (samePs ts)
  have HV := Lib.hid hv
  have hm2 : (m.size : Int) ≤ 1024 := by omega
  clear hv h hj hsp hlb
  generalize bs (TG.listB (toL ts)) = s at *
  generalize ts.length = n at *
  go_enter Try.func4, Try.ntmps4
  go_wp2_with (first
    | (go_at_call 11; (with_reducible refine (HF.out).mono ?_); rintro e W1 ⟨rfl, k1⟩; have V1 := tags_keep HV.out k1; have Hw1 := bq_trans (bq_refl w) k1)
    | (go_at_call 12; (with_reducible refine (HJ.out _ _ V1).mono ?_); rintro e W2 ⟨rfl, k2⟩; have V2 := tags_keep V1 k2; have Hw2 := bq_trans Hw1 k2)
    | (go_at_call 14; (with_reducible refine (HR.out _ _ V2).mono ?_); rintro e W3 ⟨⟨u, n3, c3, rfl, U3⟩, k3⟩; have V3 := tags_keep V2 k3; have Hw3 := bq_trans Hw2 k3)
    | (go_at_call 13; (with_reducible refine (HRJ.out _ _ U3).mono ?_); rintro e W4 ⟨rfl, k4⟩; have V4 := tags_keep V3 k4; have Hw4 := bq_trans Hw3 k4)
    | (go_at_call 15; (with_reducible refine (HS.out _).mono ?_); rintro e W5 ⟨⟨u5, n5, c5, rfl, U5⟩, k5⟩; have V5 := tags_keep V4 k5; have Hw5 := bq_trans Hw4 k5)
    | (go_at_call 14; (with_reducible refine (HR.out _ _ U5).mono ?_); rintro e W6 ⟨⟨u6, n6, c6, rfl, U6⟩, k6⟩; have V6 := tags_keep V5 k6; have Hw6 := bq_trans Hw5 k6)
    | (go_at_call 14; (with_reducible refine (HR.out _ _ V6).mono ?_); rintro e W7 ⟨⟨u7, n7, c7, rfl, U7⟩, k7⟩; have T7 := tags_keep U6 k7; have Hw7 := bq_trans Hw6 k7)
    | (go_at_call 16; (with_reducible refine (HSM.out _ _ _ T7 U7).mono ?_); rintro e W8 ⟨rfl, k8⟩; have Hw8 := bq_trans Hw7 k8)
    | (go_at_call 7; (with_reducible refine (awake12_any _).mono ?_); rintro e W9 ⟨rfl, k9⟩; have Hw9 := bq_trans Hw8 k9))
  go_ret
  exact ⟨rfl, Hw9⟩
theorem tagJoins_walk (ts : List (Int × ByteArray)) (v : Value) (m : ByteArray) (w : World) (hv : Tags w v ts) : Calls Try.prog 4 #[v, .string m] w fun e w' => e = .returned (.bool true) ∧ Below w.heap.size w w' := by
  obtain ⟨a, c, b, o, rfl, _, _⟩ := hv.at
  by_cases h : fewOk ts
  · by_cases hm : m.size ≤ 1024
    · by_cases hj : joinOk ts
      · exact joins_d ts a c m w hv h hm hj
      · exact joins_c ts a c m w hv h (by omega) hj
    · exact joins_b ts a c m w hv h (by omega)
  · exact joins_a ts a c m w hv h
theorem again_a (s : ByteArray) (w : World) (h : (4096 : Int) < (s.size : Int)) : Calls Try.prog 5 #[.string s] w fun e w' => e = .returned (.bool true) ∧ Below w.heap.size w w' := by
  go_enter Try.func5, Try.ntmps5
  go_wp2_with (first
    | (go_at_call 7; (with_reducible refine (awake12_any _).mono ?_); rintro e W1 ⟨rfl, k1⟩; have Hw1 := bq_trans (bq_refl w) k1))
  go_ret
  exact ⟨rfl, Hw1⟩
theorem again_b (s : ByteArray) (x : Int) (w : World) (h : s.size ≤ 4096) (hsp : TG.split 256 s.data.toList = .error x) : Calls Try.prog 5 #[.string s] w fun e w' => e = .returned (.bool true) ∧ Below w.heap.size w w' := by
  have HS := Lib.hid fun W => splitP_er W (by omega) hsp
  have h2 : (s.size : Int) ≤ 4096 := by omega
  have hx : (x != 0) = true := bne_iff_ne.2 (by rcases TG.split_err _ _ _ hsp with h | h | h <;> omega)
  clear hsp
  go_enter Try.func5, Try.ntmps5
  go_wp2_with (first
    | (go_at_call 15; (with_reducible refine (HS.out _).mono ?_); rintro e W1 ⟨rfl, k1⟩; have Hw1 := bq_trans (bq_refl w) k1)
    | (go_at_call 7; (with_reducible refine (awake12_any _).mono ?_); rintro e W2 ⟨rfl, k2⟩; have Hw2 := bq_trans Hw1 k2))
  go_ret
  exact ⟨rfl, Hw2⟩
set_option maxHeartbeats 1000000 in
theorem again_c (s : ByteArray) (ts : List (Nat × List UInt8)) (r : List UInt8) (w : World) (h : s.size ≤ 4096) (hsp : TG.split 256 s.data.toList = .ok (ts, r)) : Calls Try.prog 5 #[.string s] w fun e w' => e = .returned (.bool true) ∧ Below w.heap.size w w' := by
  obtain ⟨hfit, hlen, hbytes⟩ := TG.split_ok _ _ _ _ hsp
  rw [bytes_length] at hbytes
  have hj : joinOk (ofL ts) := ⟨by rw [ofL_len]; exact hlen, fun t ht => by
    obtain ⟨u, hu, rfl⟩ := List.mem_map.1 ht
    have h1 := hfit u hu
    exact ⟨by show (1 : Int) ≤ (u.1 : Int); have := h1.1; omega, by show (u.1 : Int) ≤ 1023; have := h1.2.1; omega⟩⟩
  have hsm : ∀ t ∈ ofL ts, t.2.size < 4294967296 := fun t ht => by
    obtain ⟨u, hu, rfl⟩ := List.mem_map.1 ht
    have := (hfit u hu).2.2
    show (bs u.2).size < _
    rw [bs_size]; exact this
  have hz : (bs (TG.listB ts)).size + (bs r).size ≤ s.size := by rw [bs_size, bs_size]; exact hbytes
  have HS0 := Lib.hid fun W => splitP_at W (by omega) hsp
  have hsp2 : TG.split 256 (bs (TG.listB ts)).data.toList = .ok (ts, []) := by
    have := TG.split_list [] ts 256 hfit hlen
    rw [List.append_nil] at this
    exact this
  have HS : Hid (∀ W, Calls Try.prog 15 #[.string s] W fun e w' => (∃ u n c, e = .returned (.tuple #[.slice u n c, .string (bs r), .int .i64 0]) ∧ Tags w' (.slice u n c) (ofL ts)) ∧ Below W.heap.size W w') := Lib.hid fun W => (HS0.out W).mono fun e w' ⟨⟨u, c, h1, h2⟩, hb⟩ => ⟨⟨u, _, c, h1, h2⟩, hb⟩
  have HS2 : Hid (∀ W, Calls Try.prog 15 #[.string (bs (TG.listB ts))] W fun e w' => (∃ u n c, e = .returned (.tuple #[.slice u n c, .string ⟨#[]⟩, .int .i64 0]) ∧ Tags w' (.slice u n c) (ofL ts)) ∧ Below W.heap.size W w') := Lib.hid fun W =>
    (splitP_at W (by omega) hsp2).mono fun e w' ⟨⟨u, c, h1, h2⟩, hb⟩ => ⟨⟨u, _, c, h1, h2⟩, hb⟩
  have HJ : Hid (∀ (v : Value) (W : World), Tags W v (ofL ts) → Calls Try.prog 12 #[v] W fun e w' => e = .returned (.tuple #[.string (bs (TG.listB ts)), .int .i64 0]) ∧ Below W.heap.size W w') := Lib.hid fun v W hW => by
    have h1 := join12_any (ofL ts) v W hW hsm
    rw [joinV_yes hj, toL_ofL] at h1
    exact h1
  have HR : Hid (∀ (v : Value) (W : World), Tags W v (ofL ts) → Calls Try.prog 14 #[v] W fun e w' => (∃ u n c, e = .returned (.slice u n c) ∧ Tags w' (.slice u n c) (ofL ts)) ∧ Below W.heap.size W w') := Lib.hid fun v W hW => refsP (ofL ts) v W hW (by have := hj.1; omega)
  have HSM : Hid (∀ (u v : Value) (W : World), Tags W u (ofL ts) → Tags W v (ofL ts) → Calls Try.prog 16 #[u, v] W fun e w' => e = .returned (.bool true) ∧ Below W.heap.size W w') := Lib.hid (samePs (ofL ts))
  have h2 : (s.size : Int) ≤ 4096 := by omega
  have hzi : ((bs (TG.listB ts)).size : Int) + ((bs r).size : Int) ≤ (s.size : Int) := by omega
  clear hfit hlen hbytes hj hsm hz hsp hsp2 HS0
  generalize bs (TG.listB ts) = t at *
  generalize bs r = rd at *
  generalize ofL ts = us at *
  go_enter Try.func5, Try.ntmps5
  go_wp2_with (first
    | (go_at_call 15; (with_reducible refine (HS.out _).mono ?_); rintro e W1 ⟨⟨u1, n1, c1, rfl, U1⟩, k1⟩; have Hw1 := bq_trans (bq_refl w) k1)
    | (go_at_call 12; (with_reducible refine (HJ.out _ _ U1).mono ?_); rintro e W2 ⟨rfl, k2⟩; have V2 := tags_keep U1 k2; have Hw2 := bq_trans Hw1 k2)
    | (go_at_call 15; (with_reducible refine (HS2.out _).mono ?_); rintro e W3 ⟨⟨u3, n3, c3, rfl, U3⟩, k3⟩; have V3 := tags_keep V2 k3; have Hw3 := bq_trans Hw2 k3)
    | (go_at_call 14; (with_reducible refine (HR.out _ _ V3).mono ?_); rintro e W4 ⟨⟨u4, n4, c4, rfl, U4⟩, k4⟩; have V4 := tags_keep U3 k4; have Hw4 := bq_trans Hw3 k4)
    | (go_at_call 14; (with_reducible refine (HR.out _ _ V4).mono ?_); rintro e W5 ⟨⟨u5, n5, c5, rfl, U5⟩, k5⟩; have V5 := tags_keep U4 k5; have Hw5 := bq_trans Hw4 k5)
    | (go_at_call 16; (with_reducible refine (HSM.out _ _ _ V5 U5).mono ?_); rintro e W6 ⟨rfl, k6⟩; have Hw6 := bq_trans Hw5 k6)
    | (go_at_call 7; (with_reducible refine (awake12_any _).mono ?_); rintro e W7 ⟨rfl, k7⟩; have Hw7 := bq_trans Hw6 k7))
  go_ret
  exact ⟨rfl, Hw7⟩
theorem tagAgain_walk (s : ByteArray) (w : World) : Calls Try.prog 5 #[.string s] w fun e w' => e = .returned (.bool true) ∧ Below w.heap.size w w' := by
  by_cases h : s.size ≤ 4096
  · cases hsp : TG.split 256 s.data.toList with
    | error x => exact again_b s x w h hsp
    | ok p => exact again_c s p.1 p.2 w h hsp
  · exact again_a s w (by omega)
end Go.Proofs.Ytffcfcgkpebdoaa
