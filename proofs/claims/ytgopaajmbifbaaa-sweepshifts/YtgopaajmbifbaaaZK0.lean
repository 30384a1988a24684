import Derived.Below
import Derived.ChangeSame
import Derived.OpenShut
import Derived.Carry
import Derived.Test.YtgopaajmbifbaaaProg
import Derived.WalkKit
import Derived.Lib.Hide
import Derived.Deep.QuietTactic
import Derived.BigQuiet
import Derived.Lib.Mul64
import Derived.Laws.Bits64b
import Derived.Lib.BitFns
import Derived.Deep.Draws
import Derived.Deep.DeepCutAuto
import Derived.Deep.CutBlock
namespace Go.Proofs.Ytgopaajmbifbaaa
open Go.RowKit Go.WideShapes Go.ChangeShapes
end Go.Proofs.Ytgopaajmbifbaaa
namespace Go.Proofs.Ytgopaajmbifbaaa
open Go.RowKit Go.WideShapes Go.ChangeShapes
theorem trodAll_below {H : Type} {enc : TypeId × Value → H} {P : Program} (hl : laidOutB P = true) {W W' : World} (hb : Below W.heap.size W W') :
    ∀ (ts : List TypeId) (vs : List Value) (ds : List (DataW H)) (ps : List MemPlace), (∀ t ∈ ts, P.readableRec t = true ∧ t < P.types.size) → (∀ x ∈ ps, x.block < W.heap.size) →
      DataW.TrodAll enc P W 0 (fun _ => true) true ts vs ds ps → DataW.TrodAll enc P W' 0 (fun b => decide (b < W.heap.size)) true ts vs ds ps
  | [], vs, ds, ps, _, _, h => by
    obtain ⟨rfl, rfl, rfl⟩ := trodAll_nil h
    exact trodAll_mk0
  | t :: ts, vs, ds, ps, hr, hlt, h => by
    obtain ⟨v, vs', d, ds', p, q, rfl, rfl, rfl, h0, h1⟩ := trodAll_cons h
    exact trodAll_cons_mk (Below.trod hl (hr t (by simp)).1 (hr t (by simp)).2 h0 hb (fun x hx => hlt x (by simp [hx]))) (trodAll_below hl hb ts vs' ds' q (fun u hu => hr u (by simp [hu])) (fun x hx => hlt x (by simp [hx])) h1)
theorem post_law {H : Type} {enc : TypeId × Value → H} {P : Program} {f : Func} {s : ChangeSpec} {apart fresh handsOn : Bool} {W W' : World} {args : Array Value} {v : Value} {ds gs : List (DataW H)} {before p : List MemPlace}
    (hl : laidOutB P = true) (hr : ∀ t ∈ f.params.toList, P.readableRec t = true ∧ t < P.types.size)
    (hW : DataW.Whole enc P f.params.toList s.vars apart W args.toList ds gs before) (hA : DataW.TrodAll enc P W 0 (fun _ => true) true f.params.toList args.toList ds p) (hp : before = p)
    (hres : ∀ (b : Nat) (sp : Nat → Bool) (hd : Bool), DataW.TrodAll enc P W' b sp hd f.resultTypes.toList (v.resultList f.resultTypes.size) (s.fn H (ds ++ gs)).results [])
    (hargs : (s.fn H (ds ++ gs)).args = ds) (hvars : ∀ sp : Nat → Bool, DataW.TrodVars enc P W' sp s.vars (s.fn H (ds ++ gs)).vars [])
    (hb : Below W.heap.size W W') : s.post enc P f apart fresh handsOn false W args v W' := by
  subst hp
  refine ⟨ds, gs, before, [], before, [], hW, hres _ _ _, ?_, hvars _, World.keptBut_mono (fun q hq => ⟨hq, Or.inr (Or.inl hq)⟩) (hb.frame (· ∈ before)), fun h => by cases h⟩
  rw [hargs]
  exact trodAll_below hl hb _ _ _ _ hr (fun x hx => hW.lt x hx) hA
end Go.Proofs.Ytgopaajmbifbaaa
namespace Go.Proofs.Ytgopaajmbifbaaa.M1
theorem mul_small (b d r : Int) (h : b * d = r) (h1 : r.natAbs < b.natAbs) : d = 0 := by
  have := congrArg Int.natAbs h
  rw [Int.natAbs_mul] at this
  rcases Nat.eq_zero_or_pos d.natAbs with h0 | h0
  · omega
  · have := Nat.le_mul_of_pos_right b.natAbs h0; omega
theorem fdiv_unique (a b q r : Int) (hb : b ≠ 0) (h : b * q + r = a) (h1 : 0 < b → 0 ≤ r ∧ r < b) (h2 : b < 0 → b < r ∧ r ≤ 0) : a.fdiv b = q ∧ a.fmod b = r := by
  have e := Int.mul_fdiv_add_fmod a b
  have hf : (0 < b → 0 ≤ a.fmod b ∧ a.fmod b < b) ∧ (b < 0 → b < a.fmod b ∧ a.fmod b ≤ 0) := by
    refine ⟨fun hp => ⟨Int.fmod_nonneg_of_pos a hp, Int.fmod_lt_of_pos a hp⟩, fun hn => ?_⟩
    rw [Int.fmod_eq_emod]
    have := Int.emod_nonneg a hb
    have := Int.emod_lt_of_neg a hn
    split
    · rename_i hh
      rcases hh with hh | hh
      · omega
      · have := Int.emod_eq_zero_of_dvd hh; omega
    · rename_i hh
      have : a % b ≠ 0 := fun hz => hh (.inr (Int.dvd_of_emod_eq_zero hz))
      omega
  have hd : b * (a.fdiv b - q) = r - a.fmod b := by rw [Int.mul_sub]; omega
  have := mul_small b _ _ hd (by omega)
  have hq : a.fdiv b = q := by omega
  rw [hq] at e
  exact ⟨hq, by omega⟩
theorem tq_facts (a b : Int) (hb : b ≠ 0) : b * a.tdiv b + a.tmod b = a ∧ (a.tmod b).natAbs < b.natAbs := by
  refine ⟨Int.mul_tdiv_add_tmod a b, ?_⟩
  rw [Int.natAbs_tmod]
  exact Nat.mod_lt _ (by omega)
theorem fdiv_same (a b : Int) (hb : b ≠ 0) (h : a.tmod b = 0 ∨ (a.tmod b < 0 ∧ b < 0) ∨ (0 < a.tmod b ∧ 0 < b)) : a.fdiv b = a.tdiv b ∧ a.fmod b = a.tmod b := by
  have ⟨e, l⟩ := tq_facts a b hb
  exact fdiv_unique a b _ _ hb e (by omega) (by omega)
theorem fdiv_less (a b : Int) (hb : b ≠ 0) (h : (a.tmod b < 0 ∧ 0 < b) ∨ (0 < a.tmod b ∧ b < 0)) : a.fdiv b = a.tdiv b - 1 ∧ a.fmod b = a.tmod b + b := by
  have ⟨e, l⟩ := tq_facts a b hb
  exact fdiv_unique a b _ _ hb (by rw [Int.mul_sub]; omega) (by omega) (by omega)
theorem tdiv_range (a b : Int) (a0 : -9223372036854775808 ≤ a) (a1 : a ≤ 9223372036854775807) (hb : b ≠ 0) (hm : -9223372036854775808 < a ∨ b < -1 ∨ -1 < b) :
   -9223372036854775808 ≤ a.tdiv b ∧ a.tdiv b ≤ 9223372036854775807 := by
  have e : (a.tdiv b).natAbs = a.natAbs / b.natAbs := Int.natAbs_tdiv ..
  by_cases h1 : b = 1
  · subst h1; simp; omega
  · by_cases h2 : b = -1
    · subst h2; simp; omega
    · have : a.natAbs / b.natAbs ≤ a.natAbs / 2 := Nat.div_le_div_left (by omega) (by omega)
      omega
theorem fdiv_range (a b : Int) (a0 : -9223372036854775808 ≤ a) (a1 : a ≤ 9223372036854775807) (b0 : -9223372036854775808 ≤ b) (b1 : b ≤ 9223372036854775807) (hb : b ≠ 0) (hm : -9223372036854775808 < a ∨ b < -1 ∨ -1 < b) :
    -9223372036854775808 ≤ a.fdiv b ∧ a.fdiv b ≤ 9223372036854775807 := by
  have t := tdiv_range a b a0 a1 hb hm
  have ⟨e, l⟩ := tq_facts a b hb
  by_cases h : (a.tmod b < 0 ∧ 0 < b) ∨ (0 < a.tmod b ∧ b < 0)
  · rw [(fdiv_less a b hb h).1]
    have : a.tdiv b ≠ -9223372036854775808 := by
      intro he
      have e' : (a.tdiv b).natAbs = a.natAbs / b.natAbs := Int.natAbs_tdiv ..
      have hb2 : 2 ≤ b.natAbs := by omega
      have : a.natAbs / b.natAbs ≤ a.natAbs / 2 := Nat.div_le_div_left hb2 (by omega)
      omega
    omega
  · rw [(fdiv_same a b hb (by omega)).1]; exact t
theorem fmod_facts (a b : Int) (hb : b ≠ 0) : (0 < b → 0 ≤ a.fmod b ∧ a.fmod b < b) ∧ (b < 0 → b < a.fmod b ∧ a.fmod b ≤ 0) ∧ b * a.fdiv b + a.fmod b = a := by
  have ⟨e, l⟩ := tq_facts a b hb
  by_cases h : (a.tmod b < 0 ∧ 0 < b) ∨ (0 < a.tmod b ∧ b < 0)
  · have ⟨h1, h2⟩ := fdiv_less a b hb h
    rw [h2, h1]
    refine ⟨by omega, by omega, ?_⟩
    rw [Int.mul_sub]; omega
  · have ⟨h1, h2⟩ := fdiv_same a b hb (by omega)
    rw [h2, h1]
    exact ⟨by omega, by omega, e⟩
def rnd (a b : Int) : Int := (2 * a + b).fdiv (2 * b)
end Go.Proofs.Ytgopaajmbifbaaa.M1
namespace Go.Proofs.Ytgopaajmbifbaaa
theorem mul_bd {a b : Int} (M N : Int) (ha : -M ≤ a ∧ a ≤ M) (hb : -N ≤ b ∧ b ≤ N) : -(M * N) ≤ a * b ∧ a * b ≤ M * N := by
  obtain ⟨m, rfl⟩ := Int.eq_ofNat_of_zero_le (show 0 ≤ M by omega)
  obtain ⟨n, rfl⟩ := Int.eq_ofNat_of_zero_le (show 0 ≤ N by omega)
  have h1 : a.natAbs ≤ m := by omega
  have h2 : b.natAbs ≤ n := by omega
  have h3 : (a * b).natAbs ≤ m * n := by rw [Int.natAbs_mul]; exact Nat.mul_le_mul h1 h2
  have h4 : ((m : Int) * (n : Int)) = ((m * n : Nat) : Int) := by push_cast; rfl
  rw [h4]
  omega
theorem fdiv_pos (a b : Int) (hb : 0 < b) : a.fdiv b = a / b := Int.fdiv_eq_ediv_of_nonneg a (by omega)
theorem fdiv_neg2 (a b : Int) (hb : b ≠ 0) : (-a).fdiv (-b) = a.fdiv b := by
  have ⟨p, n, e⟩ := M1.fmod_facts (-a) (-b) (by omega)
  refine (M1.fdiv_unique a b ((-a).fdiv (-b)) (-((-a).fmod (-b))) hb ?_ (by omega) (by omega)).1.symm
  have : -b * (-a).fdiv (-b) = -(b * (-a).fdiv (-b)) := Int.neg_mul ..
  omega
theorem fdiv_small (a b : Int) (B : Int) (hb : b ≠ 0) (ha : -B ≤ a ∧ a ≤ B) : -B ≤ a.fdiv b ∧ a.fdiv b ≤ B := by
  have key : ∀ c d : Int, 0 < d → -B ≤ c → c ≤ B → -B ≤ c / d ∧ c / d ≤ B := by
    intro c d hd h1 h2
    refine ⟨(Int.le_ediv_iff_mul_le hd).2 ?_, ?_⟩
    · have : 0 ≤ B * (d - 1) := Int.mul_nonneg (by omega) (by omega)
      rw [Int.mul_sub] at this
      rw [Int.neg_mul]
      omega
    · by_cases h : 0 ≤ c
      · exact Int.le_trans (Int.ediv_le_self d h) h2
      · have := Int.ediv_neg_of_neg_of_pos (show c < 0 by omega) hd
        omega
  rcases (show b < 0 ∨ 0 < b by omega) with h | h
  · rw [← fdiv_neg2 a b hb, fdiv_pos _ _ (by omega)]
    exact key (-a) (-b) (by omega) (by omega) (by omega)
  · rw [fdiv_pos _ _ h]
    exact key a b h ha.1 ha.2
def clp (lo hi v : Int) : Int := if v < lo then lo else if hi < v then hi else v
def gridV (t : Int) : Int := 2 * ((16 * t + 327680) / 655360)
def mulF (v m : Int) : Int := (v * m) / 256
def cxM (o i : Int) : Int := clp (-512) 512 (mulF i o)
def cxA (o i p : Int) : Int := clp (-255) 255 (mulF i o + p)
def colP (v m d : Int) : Int := clp 0 255 (mulF v m + d)
end Go.Proofs.Ytgopaajmbifbaaa
namespace Go.Proofs.Ytgopaajmbifbaaa
def evB (x : Int) : Bool := decide (-16777216 ≤ x) && decide (x ≤ 16777216) && decide (x % 2 = 0)
def evP (x y : Int) : Bool := evB x && evB y
theorem evB_bd {x : Int} (h : evB x = true) : (-16777216 ≤ x ∧ x ≤ 16777216) ∧ x % 2 = 0 := by
  simp [evB] at h; omega
theorem evP_bd {x y : Int} (h : evP x y = true) : ((-16777216 ≤ x ∧ x ≤ 16777216) ∧ x % 2 = 0) ∧ ((-16777216 ≤ y ∧ y ≤ 16777216) ∧ y % 2 = 0) := by
  unfold evP at h
  rw [Bool.and_eq_true] at h
  exact ⟨evB_bd h.1, evB_bd h.2⟩
theorem evP_of {x y : Int} (h : evB x = true) (h2 : evB y = true) : evP x y = true := by unfold evP; rw [h, h2]; rfl
def bnd (a b c : Int) : Int := max (a - 2 * b + c) (-(a - 2 * b + c))
def bendV (ax ay bx by1 cx cy : Int) : Int := max (bnd ax bx cx) (bnd ay by1 cy)
def pie (d : Int) : Nat := if d ≤ 8 then 1 else if d ≤ 32 then 2 else if d ≤ 128 then 4 else if d ≤ 512 then 8 else if d ≤ 2048 then 16 else 32
def num (a b c i n : Int) : Int := a * (n - i) * (n - i) + 2 * b * i * (n - i) + c * i * i
def ptV (a b c i n : Int) : Int := 2 * ((num a b c i n + n * n) / (2 * (n * n)))
def flatL (ax ay bx by1 cx cy : Int) : List (Int × Int) :=
  (List.range (pie (bendV ax ay bx by1 cx cy))).map fun (i : Nat) => (ptV ax bx cx ((i : Int) + 1) (pie (bendV ax ay bx by1 cx cy) : Int), ptV ay by1 cy ((i : Int) + 1) (pie (bendV ax ay bx by1 cx cy) : Int))
end Go.Proofs.Ytgopaajmbifbaaa
namespace Go.Proofs.Ytgopaajmbifbaaa
open Go.RowKit
theorem ret_int {k : IntKind} {a b : Int} (h : a = b) : Ending.returned (.int k a) = .returned (.int k b) := by rw [h]
theorem size_any (n : Int) (w : World) (h0 : -9223372036854775808 ≤ n) (h1 : n ≤ 9223372036854775807) :
    Calls Try.prog 49 #[.int .i64 n] w fun e w' => e = .returned (.int .u64 (n.natAbs : Int)) ∧ w = w' := by
  by_cases h : n < 0
  · have e : IntKind.u64.wrap (-IntKind.u64.wrap n) = (n.natAbs : Int) := by simp only [IntKind.wrap_u64]; omega
    go_enter Try.func49, Try.ntmps49
    go_wp2
    go_ret
    exact ⟨rfl, rfl⟩
  · go_enter Try.func49, Try.ntmps49
    go_wp2
    go_ret
    exact ⟨ret_int (by omega), rfl⟩
theorem ret3 {a a' b b' : Int} {c : Bool} (h1 : a = a') (h2 : b = b') : Ending.returned (.tuple #[.int .i64 a, .int .i64 b, .bool c]) = .returned (.tuple #[.int .i64 a', .int .i64 b', .bool c]) := by rw [h1, h2]
set_option maxHeartbeats 1000000 in
theorem divide_core (a b q r x y : Int) (w : World) (hz : (b == 0) = false) (hb : b < 0 ∨ 0 < b) (k1 : (a == -9223372036854775808) = false)
    (e1 : wrap64 (a.tdiv b) = q) (e2 : a.tmod b = r)
    (hc : Hid (r ≤ 9223372036854775807 ∧ -9223372036854775808 ≤ r ∧ q ≤ 9223372036854775807 ∧ -9223372036854775808 ≤ q ∧ b ≤ 9223372036854775807 ∧ -9223372036854775808 ≤ b))
    (hx : Hid ((r = 0 ∧ x = q ∧ y = 0) ∨ (r < 0 ∧ b < 0 ∧ x = q ∧ y = r) ∨ (0 < r ∧ 0 < b ∧ x = q ∧ y = r) ∨ (r < 0 ∧ 0 < b ∧ -9223372036854775808 < q ∧ x = q - 1 ∧ y = r + b) ∨ (0 < r ∧ b < 0 ∧ -9223372036854775808 < q ∧ x = q - 1 ∧ y = r + b))) :
    Calls Try.prog 50 #[.int .i64 a, .int .i64 b] w fun e w' => e = .returned (.tuple #[.int .i64 x, .int .i64 y, .bool true]) ∧ ∃ n, w' = w.drewN n := by
  go_enter Try.func50, Try.ntmps50
  go_wp2
  go_quiet (fail)
  simp only [e1]
  clear e1 e2 k1 hz
  obtain ⟨r1, r0, q1, q0, b1, b0⟩ := hc.out
  clear hc
  have cb : b < 0 → decide (b < 0) = true := by simp
  have cb' : 0 < b → decide (b < 0) = false := by simp; omega
  have cr : r < 0 → decide (r < 0) = true ∧ (r != 0) = true := by intro h; simp; omega
  have cr' : 0 < r → decide (r < 0) = false ∧ (r != 0) = true := by intro h; simp; omega
  have CB := Lib.hid cb
  have CB' := Lib.hid cb'
  have CR := Lib.hid cr
  have CR' := Lib.hid cr'
  clear cb cb' cr cr' hb
  rcases hx.out with ⟨h1, h3, h4⟩ | ⟨h1, h2, h3, h4⟩ | ⟨h1, h2, h3, h4⟩ | ⟨h1, h2, h5, h3, h4⟩ | ⟨h1, h2, h5, h3, h4⟩
  all_goals
    have H3 := Lib.hid h3
    have H4 := Lib.hid h4
    clear hx h3 h4
  · have c1 : (r != 0) = false := by simp [h1]
    have H1 := Lib.hid h1
    clear h1
    go_wp2
    go_ret3
    exact ⟨ret3 H3.out.symm (by rw [H4.out, H1.out]), _, rfl⟩
  · have c1 := CR.out h1
    have c2 := CB.out h2
    obtain ⟨c3, c4⟩ := c1
    clear CB CB' CR CR'
    go_wp2
    go_ret3
    exact ⟨ret3 H3.out.symm H4.out.symm, _, rfl⟩
  · have c1 := CR'.out h1
    have c2 := CB'.out h2
    obtain ⟨c3, c4⟩ := c1
    clear CB CB' CR CR'
    go_wp2
    go_ret3
    exact ⟨ret3 H3.out.symm H4.out.symm, _, rfl⟩
  · have c1 := CR.out h1
    have c2 := CB'.out h2
    obtain ⟨c3, c4⟩ := c1
    clear CB CB' CR CR'
    go_wp2
    go_ret3
    exact ⟨ret3 H3.out.symm H4.out.symm, _, rfl⟩
  · have c1 := CR'.out h1
    have c2 := CB.out h2
    obtain ⟨c3, c4⟩ := c1
    clear CB CB' CR CR'
    go_wp2
    go_ret3
    exact ⟨ret3 H3.out.symm H4.out.symm, _, rfl⟩
set_option maxHeartbeats 1000000 in
theorem divide_core2 (b q r x y : Int) (w : World) (hz : (b == 0) = false) (hb : b < 0 ∨ 0 < b) (k2 : (b == -1) = false)
    (e1 : wrap64 (-(Int.tdiv 9223372036854775808 b)) = q) (e2 : -(Int.tmod 9223372036854775808 b) = r)
    (hc : Hid (r ≤ 9223372036854775807 ∧ -9223372036854775808 ≤ r ∧ q ≤ 9223372036854775807 ∧ -9223372036854775808 ≤ q ∧ b ≤ 9223372036854775807 ∧ -9223372036854775808 ≤ b))
    (hx : Hid ((r = 0 ∧ x = q ∧ y = 0) ∨ (r < 0 ∧ b < 0 ∧ x = q ∧ y = r) ∨ (0 < r ∧ 0 < b ∧ x = q ∧ y = r) ∨ (r < 0 ∧ 0 < b ∧ -9223372036854775808 < q ∧ x = q - 1 ∧ y = r + b) ∨ (0 < r ∧ b < 0 ∧ -9223372036854775808 < q ∧ x = q - 1 ∧ y = r + b))) :
    Calls Try.prog 50 #[.int .i64 (-9223372036854775808), .int .i64 b] w fun e w' => e = .returned (.tuple #[.int .i64 x, .int .i64 y, .bool true]) ∧ ∃ n, w' = w.drewN n := by
  go_enter Try.func50, Try.ntmps50
  go_wp2
  go_quiet (fail)
  simp only [e1]
  clear e1 e2 k2 hz
  obtain ⟨r1, r0, q1, q0, b1, b0⟩ := hc.out
  clear hc
  have cb : b < 0 → decide (b < 0) = true := by simp
  have cb' : 0 < b → decide (b < 0) = false := by simp; omega
  have cr : r < 0 → decide (r < 0) = true ∧ (r != 0) = true := by intro h; simp; omega
  have cr' : 0 < r → decide (r < 0) = false ∧ (r != 0) = true := by intro h; simp; omega
  have CB := Lib.hid cb
  have CB' := Lib.hid cb'
  have CR := Lib.hid cr
  have CR' := Lib.hid cr'
  clear cb cb' cr cr' hb
  rcases hx.out with ⟨h1, h3, h4⟩ | ⟨h1, h2, h3, h4⟩ | ⟨h1, h2, h3, h4⟩ | ⟨h1, h2, h5, h3, h4⟩ | ⟨h1, h2, h5, h3, h4⟩
  all_goals
    have H3 := Lib.hid h3
    have H4 := Lib.hid h4
    clear hx h3 h4
  · have c1 : (r != 0) = false := by simp [h1]
    have H1 := Lib.hid h1
    clear h1
    go_wp2
    go_ret3
    exact ⟨ret3 H3.out.symm (by rw [H4.out, H1.out]), _, rfl⟩
  · have c1 := CR.out h1
    have c2 := CB.out h2
    obtain ⟨c3, c4⟩ := c1
    clear CB CB' CR CR'
    go_wp2
    go_ret3
    exact ⟨ret3 H3.out.symm H4.out.symm, _, rfl⟩
  · have c1 := CR'.out h1
    have c2 := CB'.out h2
    obtain ⟨c3, c4⟩ := c1
    clear CB CB' CR CR'
    go_wp2
    go_ret3
    exact ⟨ret3 H3.out.symm H4.out.symm, _, rfl⟩
  · have c1 := CR.out h1
    have c2 := CB'.out h2
    obtain ⟨c3, c4⟩ := c1
    clear CB CB' CR CR'
    go_wp2
    go_ret3
    exact ⟨ret3 H3.out.symm H4.out.symm, _, rfl⟩
  · have c1 := CR'.out h1
    have c2 := CB.out h2
    obtain ⟨c3, c4⟩ := c1
    clear CB CB' CR CR'
    go_wp2
    go_ret3
    exact ⟨ret3 H3.out.symm H4.out.symm, _, rfl⟩
theorem divide_yes (a b : Int) (w : World) (a0 : -9223372036854775808 ≤ a) (a1 : a ≤ 9223372036854775807) (b0 : -9223372036854775808 ≤ b) (b1 : b ≤ 9223372036854775807)
    (hb : b < 0 ∨ 0 < b) (hm : -9223372036854775808 < a ∨ b < -1 ∨ -1 < b) :
    Calls Try.prog 50 #[.int .i64 a, .int .i64 b] w fun e w' => e = .returned (.tuple #[.int .i64 (a.fdiv b), .int .i64 (a.fmod b), .bool true]) ∧ ∃ n, w' = w.drewN n := by
  have hz : (b == 0) = false := by rw [beq_eq_false_iff_ne]; omega
  have hbz : b ≠ 0 := by omega
  have t1 := M1.tdiv_range a b a0 a1 hbz hm
  have t2 := M1.tq_facts a b hbz
  have t3 := M1.fdiv_range a b a0 a1 b0 b1 hbz hm
  have e1 : wrap64 (a.tdiv b) = a.tdiv b := by unfold wrap64; omega
  have hs := M1.fdiv_same a b hbz
  have hl := M1.fdiv_less a b hbz
  have hx : (a.tmod b = 0 ∧ a.fdiv b = a.tdiv b ∧ a.fmod b = 0) ∨ (a.tmod b < 0 ∧ b < 0 ∧ a.fdiv b = a.tdiv b ∧ a.fmod b = a.tmod b) ∨ (0 < a.tmod b ∧ 0 < b ∧ a.fdiv b = a.tdiv b ∧ a.fmod b = a.tmod b) ∨
      (a.tmod b < 0 ∧ 0 < b ∧ -9223372036854775808 < a.tdiv b ∧ a.fdiv b = a.tdiv b - 1 ∧ a.fmod b = a.tmod b + b) ∨ (0 < a.tmod b ∧ b < 0 ∧ -9223372036854775808 < a.tdiv b ∧ a.fdiv b = a.tdiv b - 1 ∧ a.fmod b = a.tmod b + b) := by
    by_cases h : (a.tmod b < 0 ∧ 0 < b) ∨ (0 < a.tmod b ∧ b < 0)
    · have hh := hl h; omega
    · have hh := hs (by omega); omega
  by_cases ha : a = -9223372036854775808
  · subst ha
    rw [Int.neg_tdiv] at *
    rw [Int.neg_tmod] at *
    exact divide_core2 b _ _ _ _ w hz hb (by rw [beq_eq_false_iff_ne]; omega) e1 rfl (Lib.hid (by omega)) (Lib.hid hx)
  · exact divide_core a b _ _ _ _ w hz hb (by rw [beq_eq_false_iff_ne]; omega) e1 rfl (Lib.hid (by omega)) (Lib.hid hx)
end Go.Proofs.Ytgopaajmbifbaaa
namespace Go.Proofs.Ytgopaajmbifbaaa
open Go.RowKit
theorem floor_yes (a b : Int) (w : World) (a0 : -9223372036854775808 ≤ a) (a1 : a ≤ 9223372036854775807) (b0 : -9223372036854775808 ≤ b) (b1 : b ≤ 9223372036854775807)
    (hb : b < 0 ∨ 0 < b) (hm : -9223372036854775808 < a ∨ b < -1 ∨ -1 < b) :
    Calls Try.prog 46 #[.int .i64 a, .int .i64 b] w fun e w' => e = .returned (.tuple #[.int .i64 (a.fdiv b), .bool true]) ∧ ∃ n, w' = w.drewN n := by
  have c := divide_yes a b w a0 a1 b0 b1 hb hm
  have C := Lib.hid c
  clear c a0 a1 b0 b1 hb hm
  go_enter Try.func46, Try.ntmps46
  go_wp2_with (go_at_call 50; refine C.out.mono ?_; rintro e w' ⟨rfl, n, rfl⟩)
  go_ret2
  exact ⟨rfl, _, rfl⟩
def pneg (a b : Int) : Bool := decide (a * b < 0)
def phi (a b : Int) : Int := ((a.natAbs * b.natAbs / 18446744073709551616 : Nat) : Int)
def plo (a b : Int) : Int := ((a.natAbs * b.natAbs % 18446744073709551616 : Nat) : Int)
namespace Words
theorem maskN (a : Nat) (ha : a < 18446744073709551616) : bits .and .u64 (a : Int) 4294967295 = ((a % 4294967296 : Nat) : Int) := by
  have h := bits_and_u64_nat a 4294967295 ha (by omega)
  rw [show a &&& 4294967295 = a % 4294967296 from Nat.and_two_pow_sub_one_eq_mod a 32] at h
  exact h
theorem halfN (a : Nat) : (a : Int) / 4294967296 = ((a / 4294967296 : Nat) : Int) := by omega
theorem mulN (a b : Nat) : (a : Int) * (b : Int) = ((a * b : Nat) : Int) := by push_cast; rfl
theorem addN (a b : Nat) : (a : Int) + (b : Int) = ((a + b : Nat) : Int) := by push_cast; rfl
theorem inN (a : Nat) (ha : a < 18446744073709551616) : IntKind.u64.wrap (a : Int) = (a : Int) := by rw [IntKind.wrap_u64]; omega
theorem modN (a : Nat) : IntKind.u64.wrap (a : Int) = ((a % 18446744073709551616 : Nat) : Int) := by rw [IntKind.wrap_u64]; omega
end Words
set_option maxHeartbeats 1000000 in
theorem mul64_any (x y : Nat) (hx : x < 18446744073709551616) (hy : y < 18446744073709551616) (w : World) :
    Calls Try.prog 48 #[.int .u64 x, .int .u64 y] w fun e w' => e = .returned (.tuple #[.int .u64 ((x * y / 18446744073709551616 : Nat) : Int), .int .u64 ((x * y % 18446744073709551616 : Nat) : Int)]) ∧ w = w' := by
  obtain ⟨m1, m2, m3, m4⟩ := Lib.mul64_hi x y hx hy
  have p1 := Lib.half_mul_le (a := x / 4294967296) (b := y / 4294967296) (by omega) (by omega)
  have p2 := Lib.half_mul_le (a := x / 4294967296) (b := y % 4294967296) (by omega) (by omega)
  have p3 := Lib.half_mul_le (a := x % 4294967296) (b := y / 4294967296) (by omega) (by omega)
  generalize hA : x / 4294967296 * (y / 4294967296) = A at *
  generalize hB : x / 4294967296 * (y % 4294967296) = B at *
  generalize hC : x % 4294967296 * (y / 4294967296) = C at *
  generalize hD : x % 4294967296 * (y % 4294967296) = D at *
  have F := Lib.hid (And.intro hA (And.intro hB (And.intro hC (And.intro hD (And.intro m4 (And.intro hx hy))))))
  have G := Lib.hid (And.intro m1 (And.intro m2 (And.intro m3 (And.intro p1 (And.intro p2 p3)))))
  clear hA hB hC hD m1 m2 m3 m4 p1 p2 p3 hx hy
  go_enter Try.func48, Try.ntmps48
  go_wp2
  obtain ⟨hA, hB, hC, hD, m4, hx, hy⟩ := F.out
  obtain ⟨m1, m2, m3, p1, p2, p3⟩ := G.out
  simp only [Words.maskN x hx, Words.maskN y hy, Words.halfN, Words.mulN, hA, hB, hC, hD, Words.addN, Words.inN D (by omega), Words.inN B (by omega), Words.inN C (by omega), Words.inN A (by omega),
    Words.inN _ m2, Words.maskN _ m2, Words.inN _ m3, Words.inN (A + (B + D / 4294967296) / 4294967296) (by omega), Words.inN (x * y / 18446744073709551616) (by rw [← m4]; omega), Words.modN (x * y), m4]
  go_ret2
  exact ⟨rfl, rfl⟩
end Go.Proofs.Ytgopaajmbifbaaa
namespace Go.Proofs.Ytgopaajmbifbaaa
open Go.RowKit
theorem tab_size : Lib.len8tab.size = 256 := by decide +kernel
theorem tab_all : ∀ j : Fin 256, (Lib.len8tab[j.val]'(by rw [tab_size]; exact j.isLt)).toNat = Lib.bitLen j.val := by decide +kernel
theorem tab_at (i : Nat) (h : i < Lib.len8tab.size) : (Lib.len8tab[i]'h).toNat = Lib.bitLen i := tab_all ⟨i, by rw [tab_size] at h; exact h⟩
theorem tab_close (k : Nat) (y : Int) (X : Nat) (h : y.toNat < Lib.len8tab.size) (hk : k ≤ 56) (e : Lib.bitLen X = k + Lib.bitLen y.toNat) :
    wrap64 ((k : Int) + wrap64 ((Lib.len8tab[y.toNat]'h).toNat : Int)) = (Lib.bitLen X : Int) := by
  have h8 : Lib.bitLen y.toNat ≤ 8 := Lib.bitLen_le8 ⟨y.toNat, by rw [tab_size] at h; exact h⟩
  rw [tab_at _ h, e]
  unfold wrap64
  omega
set_option maxHeartbeats 4000000 in
set_option maxRecDepth 100000 in
theorem len64_any (x : Int) (w : World) (h0 : 0 ≤ x) (h1 : x ≤ 18446744073709551615) :
    Calls Try.prog 47 #[.int .u64 x] w fun e w' => e = .returned (.int .i64 (Lib.bitLen x.toNat)) ∧ w = w' := by
  have hsz : (Lib.len8tab.size : Int) = 256 := by rw [tab_size]; rfl
  go_enter Try.func47, Try.ntmps47
  go_wp2
  all_goals (go_ret; refine ⟨ret_int ?_, rfl⟩)
  · exact tab_close 56 _ _ _ (by omega) (by rw [show (x / 4294967296 / 65536 / 256).toNat = x.toNat / 72057594037927936 from by omega]; exact Lib.bitLen_shift56 _ (by omega) (by omega))
  · exact tab_close 48 _ _ _ (by omega) (by rw [show (x / 4294967296 / 65536).toNat = x.toNat / 281474976710656 from by omega]; exact Lib.bitLen_shift48 _ (by omega) (by omega))
  · exact tab_close 40 _ _ _ (by omega) (by rw [show (x / 4294967296 / 256).toNat = x.toNat / 1099511627776 from by omega]; exact Lib.bitLen_shift40 _ (by omega) (by omega))
  · exact tab_close 32 _ _ _ (by omega) (by rw [show (x / 4294967296).toNat = x.toNat / 4294967296 from by omega]; exact Lib.bitLen_shift32 _ (by omega) (by omega))
  · exact tab_close 24 _ _ _ (by omega) (by rw [show (x / 65536 / 256).toNat = x.toNat / 16777216 from by omega]; exact Lib.bitLen_shift24 _ (by omega) (by omega))
  · exact tab_close 16 _ _ _ (by omega) (by rw [show (x / 65536).toNat = x.toNat / 65536 from by omega]; exact Lib.bitLen_shift16 _ (by omega) (by omega))
  · exact tab_close 8 _ _ _ (by omega) (by rw [show (x / 256).toNat = x.toNat / 256 from by omega]; exact Lib.bitLen_shift8 _ (by omega) (by omega))
  · have := tab_close 0 x x.toNat (by rw [tab_size]; omega) (by omega) (by omega)
    rw [← this]
    simp
end Go.Proofs.Ytgopaajmbifbaaa
namespace Go.Proofs.Ytgopaajmbifbaaa
open Go.RowKit
theorem bq_trans {a b c : World} (h : Below a.heap.size a b) (k : Below b.heap.size b c) : Below a.heap.size a c := h.trans (k.mono h.size)
theorem bq_alloc {a b : World} (h : Below a.heap.size a b) (o : Obj) : Below a.heap.size a (b.alloc o) := h.alloc h.size o
theorem bq_drew {a b : World} (h : Below a.heap.size a b) : Below a.heap.size a b.drew := h.drew
theorem bq_drewN {a b : World} (h : Below a.heap.size a b) (n : Nat) : Below a.heap.size a (b.drewN n) := ⟨h.os, h.tape, h.output, h.size, h.block⟩
theorem bq_refl (a : World) : Below a.heap.size a a := Below.refl _ _
end Go.Proofs.Ytgopaajmbifbaaa
namespace Go.Proofs.Ytgopaajmbifbaaa.M4
structure Digit (U c Y a b : Nat) : Prop where
  hY : Y = a * 4294967296 + b
  hb : b < 4294967296
  ha : 2147483648 ≤ a
  ha1 : a < 4294967296
  hU : U < Y
  hc : c < 4294967296
def quo (U c Y : Nat) : Nat := (U * 4294967296 + c) / Y
def rem (U c Y : Nat) : Nat := (U * 4294967296 + c) % Y
theorem quo_le {U c Y q : Nat} (h0 : 0 < Y) (h : q * Y ≤ U * 4294967296 + c) : q ≤ quo U c Y := (Nat.le_div_iff_mul_le h0).2 h
theorem quo_lt {U c Y q : Nat} (h0 : 0 < Y) (h : U * 4294967296 + c < q * Y) : quo U c Y < q := (Nat.div_lt_iff_lt_mul h0).2 h
theorem split (q a b : Nat) : q * (a * 4294967296 + b) = (q * a) * 4294967296 + q * b := by rw [Nat.mul_add, Nat.mul_assoc]
theorem small {U c Y a b : Nat} (D : Digit U c Y a b) : quo U c Y < 4294967296 := by
  obtain ⟨hY, hb, ha, ha1, hU, hc⟩ := D
  exact quo_lt (by omega) (by omega)
theorem more {U c Y a b q r : Nat} (D : Digit U c Y a b) (hq : q * a + r = U) (h : 4294967296 ≤ q ∨ 4294967296 * r + c < q * b) : quo U c Y < q := by
  rcases h with h | h
  · have := small D; omega
  · obtain ⟨hY, hb, ha, ha1, hU, hc⟩ := D
    refine quo_lt (by omega) ?_
    rw [hY, split]
    generalize q * a = p at *
    generalize q * b = m at *
    omega
theorem done {U c Y a b q r : Nat} (D : Digit U c Y a b) (hq : q * a + r = U) (h : q * b ≤ 4294967296 * r + c) : q ≤ quo U c Y := by
  obtain ⟨hY, hb, ha, ha1, hU, hc⟩ := D
  refine quo_le (by omega) ?_
  rw [hY, split]
  generalize q * a = p at *
  generalize q * b = m at *
  omega
theorem parts (U c Y : Nat) : U * 4294967296 + c = quo U c Y * Y + rem U c Y := (Nat.div_add_mod' _ _).symm
theorem rem_lt {U c Y a b : Nat} (D : Digit U c Y a b) : rem U c Y < Y := by
  obtain ⟨hY, hb, ha, ha1, hU, hc⟩ := D
  exact Nat.mod_lt _ (by omega)
theorem wide_eq (U c d : Nat) : U * 18446744073709551616 + (c * 4294967296 + d) = (U * 4294967296 + c) * 4294967296 + d := by
  rw [Nat.add_mul, Nat.mul_assoc, Nat.add_assoc]
theorem carry_eq (A r K d : Nat) : (A + r) * K + d = A * K + (r * K + d) := by rw [Nat.add_mul, Nat.add_assoc]
theorem both_plain (U c d Y q r p m : Nat) (e1 : U * 4294967296 + c = q * Y + r) (e2 : r * 4294967296 + d = p * Y + m) (l : m < Y) :
    (U * 18446744073709551616 + (c * 4294967296 + d)) / Y = q * 4294967296 + p ∧ (U * 18446744073709551616 + (c * 4294967296 + d)) % Y = m := by
  have e : U * 18446744073709551616 + (c * 4294967296 + d) = m + (q * 4294967296 + p) * Y := by
    rw [wide_eq, e1, carry_eq, e2, Nat.add_mul, Nat.mul_right_comm, ← Nat.add_assoc, Nat.add_comm]
  rw [e]
  exact ⟨by rw [Nat.add_mul_div_right _ _ (by omega), Nat.div_eq_of_lt l, Nat.zero_add], by rw [Nat.add_mul_mod_self_right, Nat.mod_eq_of_lt l]⟩
theorem both {U c d Y a b : Nat} (D : Digit U c Y a b) (hd : d < 4294967296) :
    (U * 18446744073709551616 + (c * 4294967296 + d)) / Y = quo U c Y * 4294967296 + quo (rem U c Y) d Y ∧
    (U * 18446744073709551616 + (c * 4294967296 + d)) % Y = rem (rem U c Y) d Y := by
  have D2 : Digit (rem U c Y) d Y a b := ⟨D.hY, D.hb, D.ha, D.ha1, rem_lt D, hd⟩
  exact both_plain U c d Y _ _ _ _ (parts U c Y) (parts (rem U c Y) d Y) (rem_lt D2)
theorem shifted (N y s : Nat) : N * 2 ^ s / (y * 2 ^ s) = N / y ∧ N * 2 ^ s % (y * 2 ^ s) / 2 ^ s = N % y := by
  have h2 := Nat.two_pow_pos s
  refine ⟨Nat.mul_div_mul_right _ _ h2, ?_⟩
  rw [Nat.mul_mod_mul_right, Nat.mul_div_cancel _ h2]
end Go.Proofs.Ytgopaajmbifbaaa.M4
namespace Go.Proofs.Ytgopaajmbifbaaa
open Go.RowKit
set_option linter.unusedVariables false
def DigRel (U c Y a : Nat) (x z : Value) : Prop := ∃ q r : Nat, x = .int .u64 q ∧ z = .int .u64 r ∧ q * a + r = U ∧ r < 4294967296 ∧ M4.quo U c Y ≤ q ∧ q ≤ 4294967298
def DigEnd (Q : Nat) (x z : Value) : Prop := x = .int .u64 (Q : Int) ∧ ∃ r : Int, z = .int .u64 r
end Go.Proofs.Ytgopaajmbifbaaa
namespace Go.Proofs.Ytgopaajmbifbaaa
open Go.RowKit
set_option linter.unusedVariables false
theorem bitLen_pos (x : Nat) (h0 : 0 < x) (h : x < 2 ^ 64) : 1 ≤ Lib.bitLen x := by
  rw [Lib.bitLen_half x (by omega) h]; omega
theorem bitLen_up (x : Nat) (h : x < 2 ^ 64) : x < 2 ^ Lib.bitLen x := by
  rcases Nat.lt_or_ge x (2 ^ Lib.bitLen x) with h1 | h1
  · exact h1
  · have h2 := Lib.bitLen_shift (Lib.bitLen x) x h1 h
    have h3 : 0 < x / 2 ^ Lib.bitLen x := Nat.div_pos h1 (Nat.two_pow_pos _)
    have h4 := bitLen_pos (x / 2 ^ Lib.bitLen x) h3 (Nat.lt_of_le_of_lt (Nat.div_le_self _ _) h)
    omega
theorem bitLen_down (x : Nat) (h0 : 0 < x) (h : x < 2 ^ 64) : 2 ^ (Lib.bitLen x - 1) ≤ x := by
  rcases Nat.lt_or_ge x (2 ^ (Lib.bitLen x - 1)) with h1 | h1
  · have h2 := Lib.bitLen_le x 64 (by omega) h
    have h3 := Lib.bitLen_le x (Lib.bitLen x - 1) (by omega) h1
    have h4 := bitLen_pos x h0 h
    omega
  · exact h1
end Go.Proofs.Ytgopaajmbifbaaa
