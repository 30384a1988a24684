import Derived.Test.YtpeknlablcgchaaBia
import Derived.Deep.DeepCutAuto
import Derived.Deep.CutBlock
/- Layer 2: the program's put. -/
namespace Go.Proofs.Ytpeknlablcgchaa
open Go.RowKit
set_option linter.unusedVariables false

def PutRel (w1 : World) (g b t V : Nat) (i : Value) (wr : World) : Prop :=
  ∃ k : Nat, k ≤ t ∧ i = .int .i64 k ∧ BRow wr g ((B.enc t V).take k ++ List.replicate (t - k) 0) ∧ Box wr b (.string ⟨#[]⟩) (.int .i64 0) ∧ Below w1.heap.size w1 wr
theorem list_step (T : List UInt8) (t k : Nat) (hT : T.length = t) (hk : k < t) (h' : k < T.length) : (T.take k ++ List.replicate (t - k) 0).set k T[k] = T.take (k + 1) ++ List.replicate (t - (k + 1)) 0 := by
  rw [List.set_append_right _ _ (by simp; omega), List.length_take, Nat.min_eq_left (by omega), Nat.sub_self, show t - k = (t - (k + 1)) + 1 by omega, List.replicate_succ, List.set_cons_zero, List.take_succ_eq_append_getElem h', List.append_assoc]
  rfl
theorem brow_full (t V : Nat) : (B.enc t V).take t ++ List.replicate (t - t) (0 : UInt8) = B.enc t V := by
  rw [Nat.sub_self, List.replicate_zero, List.append_nil, List.take_of_length_le (by rw [B.enc_len]; omega)]
theorem brow_step (g t V k : Nat) (w : World) (hk : k < t) (h : BRow w g ((B.enc t V).take k ++ List.replicate (t - k) 0)) :
    BRow (w.setCell ⟨g, k, none⟩ (.int .u8 ((V : Int) / 2 ^ (8 * (t - 1 - k)) % 256))) g ((B.enc t V).take (k + 1) ++ List.replicate (t - (k + 1)) 0) := by
  have hl := B.enc_len t V
  have hk' : k < (B.enc t V).length := by omega
  rw [← list_step (B.enc t V) t k hl hk hk']
  have e : (V : Int) / 2 ^ (8 * (t - 1 - k)) % 256 = ((B.enc t V)[k].toNat : Int) := by rw [B.enc_get t V k hk hk', div_pow]; omega
  rw [e]
  exact h.set (by simp [hl]; omega) _
theorem bs_extract (s : ByteArray) (m : Nat) (h : m ≤ s.size) : s.extract 0 m = bs (s.data.toList.take m) := by
  apply ByteArray.ext
  rw [ByteArray.data_extract]
  apply Array.toList_inj.1
  simp [bs]
theorem split_last (s : ByteArray) (m : Nat) (hm : m < s.size) (hm2 : s.size ≤ m + 1) : s.data.toList = s.data.toList.take m ++ [s[m]] := by
  rw [bytes_getElem s m hm (by rw [bytes_length]; exact hm), ← List.take_succ_eq_append_getElem, List.take_of_length_le (by rw [bytes_length]; omega)]
theorem putL_part_bs (s : ByteArray) (m : Nat) (hm : m < s.size) (hm2 : s.size ≤ m + 1) (f v n : Nat) (hf0 : 1 ≤ f) (hf : f ≤ 7) (hv : v < B.P2 n) :
    B.putL s.data.toList f v n = s.data.toList.take m ++ B.enc ((n + (8 - f) + 7) / 8) ((s[m].toNat / B.P2 f * B.P2 n + v) * B.P2 (B.putF s.size f n)) ∧ 8 * ((n + (8 - f) + 7) / 8) - (n + (8 - f)) = B.putF s.size f n := by
  have hl : (s.data.toList.take m).length = m := by rw [List.length_take, bytes_length]; omega
  have e := B.putL_part (s.data.toList.take m) s[m] f v n hf0 hf hv
  rw [← split_last s m hm hm2, hl, show m + 1 = s.size by omega] at e
  refine ⟨e, ?_⟩
  unfold B.putF B.putN
  omega
theorem or_head (v n f : Nat) (c : UInt8) (hn : n ≤ 31) (hu : c.toNat / B.P2 f * B.P2 n + v < 9223372036854775808) (hv : v < B.P2 n) :
    bits .or .i64 (v : Int) (wrap64 (wrap64 ((c.toNat : Int) / 2 ^ f) * 2 ^ n)) = ((c.toNat / B.P2 f * B.P2 n + v : Nat) : Int) := by
  have hc := c.toNat_lt
  have hd := Nat.div_le_self c.toNat (B.P2 f)
  rw [div_pow, P2_cast]
  generalize c.toNat / B.P2 f = d at *
  rw [i64_id (d : Int) (by omega) (by omega), show (d : Int) * (B.P2 n : Int) = ((d * B.P2 n : Nat) : Int) by push_cast; rfl, i64_id _ (by omega) (by omega)]
  have hj := nat_join n (d * B.P2 n) v (Nat.mul_mod_left _ _) hv
  rw [i64_or_nat _ _ (by omega) (by omega), Nat.or_comm, hj]
end Go.Proofs.Ytpeknlablcgchaa
