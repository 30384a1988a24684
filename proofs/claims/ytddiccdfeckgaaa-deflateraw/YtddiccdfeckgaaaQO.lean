import Derived.Test.YtddiccdfeckgaaaQL
import Derived.Test.YtddiccdfeckgaaaAe2
/- Layer 6: Close. -/
namespace Go.Proofs.Ytddiccdfeckgaaa
open Go.RowKit
set_option maxRecDepth 100000
set_option linter.unusedVariables false
set_option linter.unusedSimpArgs false
section
variable {ops : Array Oper} {rest : List Oper} {o : Oper} {a : Act} {w : World} {Q : Exit → Act → World → Prop}
theorem wl_strq (x : Operand) (ho : o.op = .convert 38 9 x) (hgd : o.guard = none) (g n c : Nat) (hx : a.eval x = .slice (some ⟨g, 0, none⟩) n c) (cs : Array Value) (hB : Blk w g cs 5) (l : List UInt8) (hcs : cs = byA l) (hl : l.length = n)
    (h : ∀ T : ByteArray, Hid (T = bs l) → T.size ≤ n → wpList Try.prog ops Q rest (a.put o.dst (.string T)) w) : wpList Try.prog ops Q (o :: rest) a w := by
  subst hcs hl
  refine wpList_plain hgd fun K hK => ?_
  have hr := blk_str hB c
  unfold Oper.wp execOp
  simp only [ho, hx, Sem.run_bind, hr, Result.andThen_ok]
  exact hK _ _ (h _ (Lib.hid rfl) (by rw [bs_size]; omega))
end
theorem cells4q {a b c d a' b' c' d' : Int} (h1 : a = a') (h2 : b = b') (h3 : c = c') (h4 : d = d') : (#[.int .u8 a, .int .u8 b, .int .u8 c, .int .u8 d] : Array Value) = #[.int .u8 a', .int .u8 b', .int .u8 c', .int .u8 d'] := by rw [h1, h2, h3, h4]
theorem u8q (k : Nat) (h : k < 256) : (UInt8.ofNat k).toNat = k := by rw [UInt8.toNat_ofNat']; omega
/-- the sum's bytes, the highest first -/
def D.tl (S : Nat) : List UInt8 := [UInt8.ofNat (S / 16777216), UInt8.ofNat (S / 65536 % 256), UInt8.ofNat (S / 256 % 256), UInt8.ofNat (S % 256)]
def D.sm (s : ByteArray) : Nat := (Ad.moI 1 s).toNat
theorem D.sm_eq (s : ByteArray) : Ad.moI 1 s = (D.sm s : Int) ∧ D.sm s < 4294967296 := by
  have := Ad.moI_bd 1 s
  unfold D.sm
  omega
/-- what Close tells -/
def clsL (s : ByteArray) : List UInt8 := 120 :: 156 :: (D.pack s ++ D.tl (D.sm s))
def clsV (s : ByteArray) : Value := if 262144 < s.size then .tuple #[.string ⟨#[]⟩, .int .i64 7] else .tuple #[.string (bs (clsL s)), .int .i64 0]
theorem D.pack_le (s : ByteArray) : (D.pack s).length ≤ 2 * s.size + 4 := by
  have h1 := D.toks_len s s.size 0 (Nat.zero_le _)
  have h2 := D.sc_len 256
  unfold D.pack
  rw [D.bytesOf_len _ _ (Nat.le_refl _), List.length_append]
  have h3 : (D.fl (D.allB s)).length ≤ 8 := by
    unfold D.fl
    split
    · exact Nat.zero_le _
    · rw [D.nb_len]; omega
  have h4 : (D.allB s).length = 3 + (D.toks s s.size 0).length + (D.sc 256).length := by unfold D.allB; rw [List.length_append, List.length_append]; rfl
  omega
set_option maxHeartbeats 1000000 in
theorem close6_any (s : ByteArray) (w : World) (hmx : s.size ≤ maxLen) :
    Calls Try.prog 11 #[.string s] w fun e w' => e = .returned (clsV s) ∧ Below w.heap.size w w' := by
  have HRW := Lib.hid (raw6_any s w hmx)
  have HSU := Lib.hid (fun W => Ad.sum_any s W hmx)
  by_cases hbig : 262144 < s.size
  · have hR : clsV s = .tuple #[.string ⟨#[]⟩, .int .i64 7] := by unfold clsV; rw [if_pos hbig]
    have hR2 : rawV6 s = .tuple #[.string ⟨#[]⟩, .int .i64 7] := by unfold rawV6; rw [if_pos hbig]
    rw [hR]
    rw [hR2] at HRW
    clear hR hR2
    go_enter Try.func11, Try.ntmps11
    go_wp2_with (go_at_call 10; refine HRW.out.mono ?_; rintro e w1 ⟨rfl, hb1⟩)
    go_ret2
    exact ⟨rfl, hb1⟩
  have hR : clsV s = .tuple #[.string (bs (clsL s)), .int .i64 0] := by unfold clsV; rw [if_neg hbig]
  have hR2 : rawV6 s = .tuple #[.string (bs (D.pack s)), .int .i64 0] := by unfold rawV6; rw [if_neg hbig]
  rw [hR]
  rw [hR2] at HRW
  have hpl := D.pack_le s
  obtain ⟨h1, hS2⟩ := D.sm_eq s
  rw [h1] at HSU
  obtain ⟨S, hS⟩ : ∃ S, S = D.sm s := ⟨_, rfl⟩
  obtain ⟨O, hO⟩ : ∃ O, O = bs (D.pack s) := ⟨_, rfl⟩
  have hOs : O.size ≤ 600000 := by rw [hO, bs_size]; omega
  rw [← hS] at HSU hS2
  rw [← hO] at HRW
  have HSO := Lib.hid (And.intro hS hO)
  have HC2 : Hid ((#[.int .u8 ((S : Int) / 16777216), .int .u8 ((S : Int) / 65536 % 256), .int .u8 ((S : Int) / 256 % 256), .int .u8 ((S : Int) % 256)] : Array Value) = byA (D.tl S)) := Lib.hid (by
    unfold byA D.tl
    simp only [List.map_cons, List.map_nil]
    rw [u8q _ (by omega), u8q _ (by omega), u8q _ (by omega), u8q _ (by omega)]
    exact cells4q (by omega) (by omega) (by omega) (by omega))
  clear hR hR2 h1 hS hO hpl
  go_enter Try.func11, Try.ntmps11
  go_upto_region 5 with (first
    | (go_at_call 10; refine HRW.out.mono ?_; rintro e w1 ⟨rfl, hb1⟩)
    | (go_at_call 26; refine (HSU.out _).mono ?_; rintro e w' ⟨rfl, rfl⟩))
  have HB1 := Lib.hid hb1
  clear hb1
  go_wp2_with (refine wl_strq (.tmp 32) rfl rfl _ _ _ rfl _ (blk_new _ _ _) _ HC2.out rfl ?_; intro T2 HT2 hT24)
  go_ret2
  refine ⟨?_, bq_alloc HB1.out _⟩
  have e : bs (clsL s) = ⟨#[120, 156]⟩ ++ O ++ T2 := by
    rw [HT2.out, HSO.out.1, HSO.out.2]
    apply ByteArray.ext
    simp [ByteArray.data_append, bs, clsL]
  rw [e]
  rfl
end Go.Proofs.Ytddiccdfeckgaaa
