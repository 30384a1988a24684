import Derived.Test.YtmbnmfhfeaagaaaDoorZH
/- Layer 5: a law: a stored block. -/
namespace Go.Proofs.YtmbnmfhfeaagaaaDoor
open Go.RowKit
set_option linter.unusedVariables false
set_option linter.unusedSimpArgs false
def u8 (k : Nat) : UInt8 := UInt8.ofNat k
theorem u8_nat (k : Nat) (h : k < 256) : (u8 k).toNat = k := by unfold u8; rw [UInt8.toNat_ofNat']; omega
/-- the five first bytes of a stored block -/
def sbL (f n : Nat) : List UInt8 := [u8 f, u8 (n % 256), u8 (n / 256), u8 (255 - n % 256), u8 (255 - n / 256)]
theorem getD_at (a r : List UInt8) (j k : Nat) (h : j = a.length + k) : (a ++ r).getD j 0 = r.getD k 0 := by
  subst h
  rw [List.getD_eq_getElem?_getD, List.getD_eq_getElem?_getD, List.getElem?_append_right (by omega)]
  congr 2; omega
/-- a stored block behind others -/
theorem I.block_at {X : ByteArray} {a b r out : List UInt8} {f most : Nat} (hX : X.data.toList = a ++ (sbL f b.length ++ (b ++ r))) (hf : f < 2) (hb : b.length ≤ 65535) (hm : out.length + b.length ≤ most) :
    I.block X most (8 * a.length) out = .ok (f == 1, 8 * (a.length + 5 + b.length), out ++ b) := by
  have hs : X.size = X.data.toList.length := by simp
  have hl : X.data.toList.length = a.length + 5 + b.length + r.length := by rw [hX]; simp [sbL]; omega
  have hc : ∀ k, k < 5 → I.cc X (a.length + k) = ((sbL f b.length ++ (b ++ r)).getD k 0).toNat := fun k hk => by
    unfold I.cc; rw [hX, getD_at a _ _ k rfl]
  refine I.block_stored hf hb (by omega) ?_ ?_ ?_ ?_ ?_ ?_ hm
  · exact (hc 0 (by omega)).trans (u8_nat f (by omega))
  · exact (hc 1 (by omega)).trans (u8_nat _ (by omega))
  · exact (hc 2 (by omega)).trans (u8_nat _ (by omega))
  · exact (hc 3 (by omega)).trans (u8_nat _ (by omega))
  · exact (hc 4 (by omega)).trans (u8_nat _ (by omega))
  · rw [hX, ← List.append_assoc, ← List.append_assoc, List.append_assoc, List.drop_append, List.drop_eq_nil_of_le (by simp [sbL])]
    simp [sbL]
theorem I.raw_stored {X : ByteArray} {b r : List UInt8} {m : Nat} (hX : X.data.toList = sbL 1 b.length ++ (b ++ r)) (hb : b.length ≤ 65535) (hm : b.length ≤ m) (hm2 : m ≤ 262144) : I.raw X (m : Int) = .ok (b, b.length + 5) := by
  have h := I.block_at (a := []) (out := []) (most := m) (f := 1) hX (by omega) hb (by simpa using hm)
  have h2 := I.raw_end hm2 (I.blocks_end h)
  rw [h2]
  congr 2
  simp; omega
theorem xnot (n : Nat) (h : n < 65536) : bits .xor .i64 (-1) (n : Int) = -1 - (n : Int) := by
  show IntKind.i64.wrap ((BitVec.ofInt 64 (-1) ^^^ BitVec.ofInt 64 (n : Int)).toNat : Int) = _
  have e1 : BitVec.ofInt 64 (-1) = BitVec.allOnes 64 := by decide
  rw [e1, BitVec.allOnes_xor, BitVec.toNat_not, ofInt_i64 n (by omega), IntKind.wrap_i64]
  omega
theorem I.byt_cc (t : ByteArray) (k : Nat) : I.byt t k = (t.data.toList.getD k 0).toNat := by
  unfold I.byt
  split
  · rename_i h
    rw [List.getD_eq_getElem?_getD, List.getElem?_eq_getElem (by simpa using h)]
    rfl
  · rename_i h
    rw [List.getD_eq_getElem?_getD, List.getElem?_eq_none (by simp; omega)]
    rfl
theorem drop_list (Y : ByteArray) (k : Nat) : (Y.extract k Y.size).data.toList = Y.data.toList.drop k := by
  rw [ByteArray.data_extract]
  simp
  exact List.take_of_length_le (by simp)
theorem I.opn_stored {Y : ByteArray} {b : List UInt8} {m t0 t1 t2 t3 : Nat} (hY : Y.data.toList = 120 :: 156 :: (sbL 1 b.length ++ (b ++ [u8 t0, u8 t1, u8 t2, u8 t3]))) (hb : b.length ≤ 65535) (hm : b.length ≤ m) (hm2 : m ≤ 262144) (h0 : t0 < 256) (h1 : t1 < 256) (h2 : t2 < 256) (h3 : t3 < 256) :
    I.opn Y (m : Int) = if t0 * 16777216 + t1 * 65536 + t2 * 256 + t3 = I.sm b then .ok b else .error 5 := by
  have hs : Y.size = b.length + 11 := by
    have e : Y.size = Y.data.toList.length := by simp
    rw [e, hY]; simp [sbL]
  have hZ : (Y.extract 2 Y.size).data.toList = sbL 1 b.length ++ (b ++ [u8 t0, u8 t1, u8 t2, u8 t3]) := by rw [drop_list, hY]; rfl
  have hr := I.raw_stored hZ hb hm hm2
  have hU : ((Y.extract 2 Y.size).extract (b.length + 5) (Y.extract 2 Y.size).size).data.toList = [u8 t0, u8 t1, u8 t2, u8 t3] := by
    rw [drop_list, hZ, ← List.append_assoc, List.drop_append, List.drop_eq_nil_of_le (by simp [sbL])]
    simp [sbL]
  unfold I.opn
  rw [if_neg (by omega), if_neg (by omega), if_neg (by rw [I.byt_cc, I.byt_cc, hY]; show ¬ I.hd 120 156 = false; decide), hr]
  simp only []
  generalize (Y.extract 2 Y.size).extract (b.length + 5) (Y.extract 2 Y.size).size = V at *
  have hV : V.size = 4 := by
    have e : V.size = V.data.toList.length := by simp
    rw [e, hU]; rfl
  have hbe : I.be V 4 = t0 * 16777216 + t1 * 65536 + t2 * 256 + t3 := by
    simp only [I.be, I.byt_cc, hU]
    show 256 * (256 * (256 * (256 * 0 + (u8 t0).toNat) + (u8 t1).toNat) + (u8 t2).toNat) + (u8 t3).toNat = _
    rw [u8_nat _ h0, u8_nat _ h1, u8_nat _ h2, u8_nat _ h3]
    omega
  generalize t0 * 16777216 + t1 * 65536 + t2 * 256 + t3 = E at *
  have hcl : I.cl V (I.sm b) = if E = I.sm b then 0 else 5 := by
    unfold I.cl
    rw [hV, hbe, if_neg (by omega)]
    by_cases c : E = I.sm b
    · rw [if_neg (fun h => h c), if_neg (by omega), if_pos c]
    · rw [if_pos c, if_neg c]
  rw [hcl]
  by_cases c : E = I.sm b
  · simp [c]
  · simp [c]
theorem u8_xor_nat (a b : Nat) (ha : a < 256) (hb : b < 256) : bits .xor .u8 (a : Int) (b : Int) = ((a ^^^ b : Nat) : Int) := by
  have hx : a ^^^ b < 2 ^ 8 := Nat.xor_lt_two_pow (by omega) (by omega)
  have e : ∀ k : Nat, k < 256 → (BitVec.ofInt 8 (k : Int)).toNat = k := fun k hk => by rw [BitVec.ofInt_natCast, BitVec.toNat_ofNat]; exact Nat.mod_eq_of_lt (by omega)
  show IntKind.u8.wrap ((BitVec.ofInt 8 (a : Int) ^^^ BitVec.ofInt 8 (b : Int)).toNat : Int) = _
  rw [BitVec.toNat_xor, e a ha, e b hb, IntKind.wrap_u8]
  omega
theorem xor_back (a b : Nat) (h : a ^^^ b = a) : b = 0 := by
  have := congrArg (a ^^^ ·) h
  simp only [← Nat.xor_assoc, Nat.xor_self, Nat.zero_xor] at this
  exact this
section
variable {ops : Array Oper} {rest : List Oper} {o : Oper} {a : Act} {w : World} {Q : Exit → Act → World → Prop}
theorem wl_str (x : Operand) (ho : o.op = .convert 34 9 x) (hgd : o.guard = none) (g n c : Nat) (hx : a.eval x = .slice (some ⟨g, 0, none⟩) n c) (cs : Array Value) (hB : Blk w g cs 5) (l : List UInt8) (hcs : cs = byA l) (hl : l.length = n)
    (h : ∀ T : ByteArray, Hid (T = bs l) → T.size ≤ n → wpList Tryd.prog ops Q rest (a.put o.dst (.string T)) w) : wpList Tryd.prog ops Q (o :: rest) a w := by
  subst hcs hl
  refine wpList_plain hgd fun K hK => ?_
  have hr := blk_str hB c
  unfold Oper.wp execOp
  simp only [ho, hx, Sem.run_bind, hr, Result.andThen_ok]
  exact hK _ _ (h _ (Lib.hid rfl) (by rw [bs_size]; omega))
end
theorem cells4 {a b c d a' b' c' d' : Int} (h1 : a = a') (h2 : b = b') (h3 : c = c') (h4 : d = d') : (#[.int .u8 a, .int .u8 b, .int .u8 c, .int .u8 d] : Array Value) = #[.int .u8 a', .int .u8 b', .int .u8 c', .int .u8 d'] := by rw [h1, h2, h3, h4]
theorem str_id (s : ByteArray) : bs s.data.toList = s := by unfold bs; rw [Array.toArray_toList]
set_option maxRecDepth 100000 in
theorem inflateStored_walk (s : ByteArray) (by_ : Int) (w : World) (hs : s.size ≤ maxLen) (b0 : 0 ≤ by_) (b1 : by_ < 256) (hg : Gl w) :
    Calls Tryd.prog 5 #[.string s, .int .u8 by_] w fun e w' => e = .returned (.bool true) ∧ Below w.heap.size w w' := by
  unfold maxLen at hs
  have HAW := Lib.hid (fun W (h : Gl W) => awake_any W h)
  have HG := Lib.hid hg
  clear hg
  by_cases c1 : 4096 < s.size
  · go_enter Tryd.func5, Tryd.ntmps5
    go_wp2_with (go_at_call 8; refine (HAW.out _ HG.out).mono ?_; rintro e w1 ⟨rfl, hb1⟩)
    go_ret
    exact ⟨rfl, hb1⟩
  have hn4 : s.size ≤ 4096 := by omega
  have q1 : decide (4096 < (s.size : Int)) = false := by rw [decide_eq_false_iff_not]; omega
  have e1 := Lib.hid (xnot s.size (by omega))
  have HC1 : Hid ((#[.int .u8 ((s.size : Int) % 256), .int .u8 ((s.size : Int) / 256), .int .u8 ((bits .xor .i64 (if IntKind.i64.signed = true then -1 else 9223372036854775807) (s.size : Int)) % 256), .int .u8 ((bits .xor .i64 (if IntKind.i64.signed = true then -1 else 9223372036854775807) (s.size : Int)) / 256 % 256)] : Array Value) = byA [u8 (s.size % 256), u8 (s.size / 256), u8 (255 - s.size % 256), u8 (255 - s.size / 256)]) := Lib.hid (by
    unfold byA
    simp only [List.map_cons, List.map_nil]
    rw [show (bits .xor .i64 (if IntKind.i64.signed = true then -1 else 9223372036854775807) (s.size : Int)) = -1 - (s.size : Int) from e1.out]
    rw [u8_nat _ (by omega), u8_nat _ (by omega), u8_nat _ (by omega), u8_nat _ (by omega)]
    exact cells4 (by omega) (by omega) (by omega) (by omega))
  go_enter Tryd.func5, Tryd.ntmps5
  go_upto_region 5 with (refine wl_str _ rfl rfl _ _ _ rfl _ (blk_new _ _ _) _ HC1.out rfl ?_; intro T HT hT4)
  have HW1 := Lib.hid (bq_alloc (bq_refl w) (.cells #[.int .u8 ((s.size : Int) % 256), .int .u8 ((s.size : Int) / 256), .int .u8 ((bits .xor .i64 (-1) (s.size : Int)) % 256), .int .u8 ((bits .xor .i64 (-1) (s.size : Int)) / 256 % 256)] 5))
  generalize w.alloc (.cells #[.int .u8 ((s.size : Int) % 256), .int .u8 ((s.size : Int) / 256), .int .u8 ((bits .xor .i64 (-1) (s.size : Int)) % 256), .int .u8 ((bits .xor .i64 (-1) (s.size : Int)) / 256 % 256)] 5) = W1 at *
  have HG1 := Lib.hid (HG.out.keep HW1.out HG.out.four)
  obtain ⟨X, hX⟩ : ∃ X : ByteArray, X = ⟨#[1]⟩ ++ T ++ s := ⟨_, rfl⟩
  have HXL : Hid (X.data.toList = sbL 1 s.data.toList.length ++ (s.data.toList ++ [])) := Lib.hid (by rw [hX, HT.out]; simp [ByteArray.data_append, bs, sbL, u8])
  have hX5 : X.size ≤ 5000 := by rw [hX, ByteArray.size_append, ByteArray.size_append, show (ByteArray.size ⟨#[1]⟩) = 1 by rfl]; omega
  have hr1 := rawR_ok (I.raw_stored (m := 4096) HXL.out (by simp; omega) (by simp; omega) (by omega))
  have HR1 := Lib.hid (raw_any X 4096 W1 (by omega) HG1.out)
  rw [show ((4096 : Nat) : Int) = 4096 by rfl] at hr1
  rw [hr1] at HR1
  unfold rawT at HR1
  rw [str_id, show s.data.toList.length = s.size by simp] at HR1
  have HXX := Lib.hid hX
  rw [← hX]
  clear hX hr1
  obtain ⟨B, rfl⟩ : ∃ B : Nat, by_ = (B : Int) := ⟨by_.toNat, by omega⟩
  obtain ⟨S, hS⟩ : ∃ S, S = I.sm s.data.toList := ⟨_, rfl⟩
  have hsm := I.sm_eq s.data.toList
  rw [str_id, ← hS] at hsm
  have HSU := Lib.hid (fun W => Ad.sum_any s W (by unfold maxLen; omega))
  rw [hsm.1] at HSU
  have hS2 : S < 4294967296 := hsm.2
  have hB2 : B < 256 := by omega
  have HS := Lib.hid hS
  have hx8 := Nat.xor_lt_two_pow (x := S % 256) (y := B) (n := 8) (by omega) (by omega)
  obtain ⟨x, hx⟩ : ∃ x, x = (S % 256) ^^^ B := ⟨_, rfl⟩
  rw [← hx] at hx8
  have HX := Lib.hid hx
  have HC2 : Hid ((#[.int .u8 ((S : Int) / 16777216), .int .u8 ((S : Int) / 65536 % 256), .int .u8 ((S : Int) / 256 % 256), .int .u8 (bits .xor .u8 ((S : Int) % 256) (B : Int))] : Array Value) = byA [u8 (S / 16777216), u8 (S / 65536 % 256), u8 (S / 256 % 256), u8 x]) := Lib.hid (by
    unfold byA
    simp only [List.map_cons, List.map_nil]
    have e := u8_xor_nat (S % 256) B (by omega) (by omega)
    rw [← hx, show ((S % 256 : Nat) : Int) = (S : Int) % 256 by omega] at e
    rw [u8_nat _ (by omega), u8_nat _ (by omega), u8_nat _ (by omega), u8_nat x (by omega), e]
    exact cells4 (by omega) (by omega) (by omega) rfl)
  clear hS hsm hx
  go_upto_region 7 with (first
    | (go_at_call 9; refine HR1.out.mono ?_; rintro e w2 ⟨rfl, hb2⟩)
    | (go_at_call 13; refine (HSU.out _).mono ?_; rintro e w' ⟨rfl, rfl⟩))
  go_upto_region 8 with (refine wl_str (.tmp 58) rfl rfl _ _ _ rfl _ (blk_new _ _ _) _ HC2.out rfl ?_; intro T2 HT2 hT24)
  have HW3 := Lib.hid (bq_alloc (bq_trans HW1.out hb2) (.cells #[.int .u8 ((S : Int) / 16777216), .int .u8 ((S : Int) / 65536 % 256), .int .u8 ((S : Int) / 256 % 256), .int .u8 (bits .xor .u8 ((S : Int) % 256) (B : Int))] 5))
  generalize w2.alloc (.cells #[.int .u8 ((S : Int) / 16777216), .int .u8 ((S : Int) / 65536 % 256), .int .u8 ((S : Int) / 256 % 256), .int .u8 (bits .xor .u8 ((S : Int) % 256) (B : Int))] 5) = W3 at *
  have HG3 := Lib.hid (HG.out.keep HW3.out HG.out.four)
  obtain ⟨Y, hY⟩ : ∃ Y : ByteArray, Y = ⟨#[120, 156]⟩ ++ X ++ T2 := ⟨_, rfl⟩
  have HYL : Hid (Y.data.toList = 120 :: 156 :: (sbL 1 s.data.toList.length ++ (s.data.toList ++ [u8 (S / 16777216), u8 (S / 65536 % 256), u8 (S / 256 % 256), u8 x]))) := Lib.hid (by
    rw [hY, HT2.out]
    simp only [ByteArray.data_append, Array.toList_append, HXL.out]
    simp [bs])
  have hY5 : Y.size ≤ 6000 := by rw [hY, ByteArray.size_append, ByteArray.size_append, show (ByteArray.size ⟨#[120, 156]⟩) = 2 by rfl]; omega
  have ho := I.opn_stored (m := 4096) HYL.out (by simp; omega) (by simp; omega) (by omega) (by omega) (by omega) (by omega) (by omega)
  rw [show ((4096 : Nat) : Int) = 4096 by rfl, ← HS.out] at ho
  have HR3 := Lib.hid (open_any Y 4096 W3 (by omega) HG3.out)
  rw [ho] at HR3
  have HYY := Lib.hid hY
  clear hb2 HR1 HSU HC1 HC2 ho
  by_cases hB0 : B = 0
  · have hxe : S / 16777216 * 16777216 + S / 65536 % 256 * 65536 + S / 256 % 256 * 256 + x = S := by rw [HX.out, hB0, Nat.xor_zero]; omega
    rw [if_pos hxe] at HR3
    unfold opV opT at HR3
    dsimp only at HR3
    rw [str_id] at HR3
    subst hB0
    clear hxe hY
    go_upto_region 9 with (go_at_call 11; rw [← HYY.out]; refine HR3.out.mono ?_; rintro e w4 ⟨rfl, hb4⟩)
    have HW4 := Lib.hid (bq_trans HW3.out hb4)
    have HG4 := Lib.hid (HG.out.keep HW4.out HG.out.four)
    clear hb4
    go_wp2_with (go_at_call 8; refine (HAW.out _ HG4.out).mono ?_; rintro e w5 ⟨rfl, hb5⟩)
    go_ret
    exact ⟨rfl, bq_trans HW4.out hb5⟩
  · have hxe : ¬ S / 16777216 * 16777216 + S / 65536 % 256 * 65536 + S / 256 % 256 * 256 + x = S := fun h => hB0 (xor_back (S % 256) B (by rw [← HX.out]; omega))
    rw [if_neg hxe] at HR3
    unfold opV opT at HR3
    dsimp only at HR3
    have q3 : ((B : Int) != 0) = true := by rw [bne_iff_ne]; omega
    clear hxe hY
    go_upto_region 9 with (go_at_call 11; rw [← HYY.out]; refine HR3.out.mono ?_; rintro e w4 ⟨rfl, hb4⟩)
    have HW4 := Lib.hid (bq_trans HW3.out hb4)
    have HG4 := Lib.hid (HG.out.keep HW4.out HG.out.four)
    clear hb4
    unfold bs
    go_wp2_with (go_at_call 8; refine (HAW.out _ HG4.out).mono ?_; rintro e w5 ⟨rfl, hb5⟩)
    go_ret
    exact ⟨rfl, bq_trans HW4.out hb5⟩
end Go.Proofs.YtmbnmfhfeaagaaaDoor
