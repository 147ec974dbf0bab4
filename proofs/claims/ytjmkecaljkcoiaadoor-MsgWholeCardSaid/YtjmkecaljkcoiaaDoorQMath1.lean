/-
  Rows of bytes and what may be turned: an append whose row's block is told; clones.
-/
import Derived.WalkSpells
import Derived.Lib.SliceRun
import Derived.Test.YtjmkecaljkcoiaaDoorQSet1
import Derived.Test.YtjmkecaljkcoiaaDoorQBytes1
import Derived.WalkKit
import Derived.Laws.BitsAllLaws
import Derived.Laws.DeepNot64
namespace Go.Proofs.YtjmkecaljkcoiaaDoor
open Go.RowKit
set_option linter.unusedVariables false
set_option linter.unusedSimpArgs false

set_option maxRecDepth 100000 in
/-- 'append(out, xs...)' of any bytes: the row's block is the one it was, or new; nothing else turns. -/
theorem run_bytes_mov (w : World) (ty : TypeId) (base k : Nat) (v : Value) (l : List UInt8) (hown : OwnB w base v k l)
    (B : Nat) (A : Option Addr) (m c : Nat) (l2 : List UInt8) (hr : Bs w B A m l2) (b1 : k + m ≤ 140737488355328) (hBw : base ≤ w.heap.size) :
    ∃ v' w', (Builtin.append_ #[29, 29] ty #[v, .slice A m c]).run Tryd.prog w = .ok v' w' ∧ OwnB w' base v' (k + m) (l ++ l2) ∧ w.grownBy w' v.ownBlock ∧ Mov w v.ownBlock v'.ownBlock := by
  obtain ⟨i0, hi, hz0, hz1, hz2⟩ := info_parts info_u8
  rcases A with _ | ad
  · have hm : m = 0 := by
      by_cases h : 0 < m
      · obtain ⟨ad, e, _⟩ := hr.2 h
        cases e
      · omega
    subst hm
    obtain rfl : l2 = [] := List.eq_nil_of_length_eq_zero hr.len
    exact ⟨v, w, run_append_of_nil w base _ _ 5 i0 1 Tryd.underlying29 hi v k _ hown c, by simpa using hown, World.grownBy.refl _ _, Mov.refl _ _⟩
  · have hl2 : (bvs l2).length = m * 1 := by rw [bvs_len, hr.len]; omega
    have hc : ∀ j u, (bvs l2)[j]? = some u → w.cell? (ad.add j) = some u := by
      intro j u hu
      by_cases hm : 0 < m
      · obtain ⟨ad', e, _, hc⟩ := hr.2 hm
        injection e with e
        subst e
        rw [bvs, List.getElem?_map, Option.map_eq_some_iff] at hu
        obtain ⟨x, hx, rfl⟩ := hu
        exact hc j x hx
      · obtain rfl : l2 = [] := List.eq_nil_of_length_eq_zero (by rw [hr.len]; omega)
        simp [bvs] at hu
    obtain ⟨v', w', h1, h2, h3, h4⟩ := run_append_own (P := Tryd.prog) w base 29 ty 5 i0 _ 1 1 Tryd.underlying29 hi hz0 hz1 hz2 rfl (by decide) v k _ hown ad m c (bvs l2) hl2 hc (bvs_one l2) (by unfold maxLen; omega) (by omega) hBw
    refine ⟨v', w', h1, by unfold OwnB; rw [bvs_append]; exact h2, h3, ?_⟩
    rcases hown.2 with ⟨rfl, rfl⟩ | ⟨g, cap, cur, rfl, hbg, hg, hnc, hcm, hcs, htake⟩
    · by_cases hm : m = 0
      · subst hm
        obtain rfl := h4.2 ⟨rfl, rfl⟩
        exact Mov.refl _ _
      · have hrun := run_append_nil (P := Tryd.prog) w 29 ty 5 i0 _ Tryd.underlying29 hi hz0 ad m c (bvs l2) (by rw [hl2, hz1]) hc (by omega) (by omega) (by rw [hz2]; omega)
        rw [h1] at hrun
        injection hrun with e1 e2
        subst e1
        exact .inr ⟨_, rfl, Nat.le_refl _⟩
    · by_cases hroom : k + m ≤ cap
      · have hrun := run_append_room (P := Tryd.prog) w 29 ty 5 i0 Tryd.underlying29 hi g k cap cur hg ad m c (bvs l2) (by rw [hl2, hz1]) hc (bvs_one l2) hroom (by rw [hz1, hl2, hcs]; omega)
        rw [h1] at hrun
        injection hrun with e1 e2
        subst e1
        exact Mov.refl _ _
      · have holds : ∀ j u, (bvs l)[j]? = some u → w.cell? ((⟨g, 0, none⟩ : Addr).add j) = some u := World.ownsRow.cells (g := g) hown rfl
        have hrun := run_append_grow (P := Tryd.prog) w 29 ty 5 i0 _ Tryd.underlying29 hi hz0 ⟨g, 0, none⟩ k cap (bvs l) (by rw [hown.1, hz1]) holds ad m c (bvs l2) (by rw [hl2, hz1]) hc (by omega) (by omega) (growslice_fits (by omega) (by rw [hz2]; omega))
        rw [h1] at hrun
        injection hrun with e1 e2
        subst e1
        exact .inr ⟨_, rfl, Nat.le_refl _⟩
theorem wp_bytes_mov {ops : Array Oper} {rest : List Oper} {o : Oper} {a : Act} {Q : Exit → Act → World → Prop} (w : World) (hg : o.guard = none) (s x : Operand)
    (hop : o.op = Op.call { callee := Callee.builtin Builtin.append, args := #[s, x], argTypes := #[29, 29] })
    (base k : Nat) (v : Value) (l : List UInt8) (hs : a.eval s = v) (hown : OwnB w base v k l)
    (B : Nat) (A : Option Addr) (m c : Nat) (l2 : List UInt8) (hx : a.eval x = .slice A m c) (hr : Bs w B A m l2) (b1 : k + m ≤ 140737488355328) (hBw : base ≤ w.heap.size)
    (hK : ∀ A' c' w', OwnB w' base (.slice A' (k + m) c') (k + m) (l ++ l2) → w.grownBy w' v.ownBlock → Mov w v.ownBlock (Value.slice A' (k + m) c').ownBlock → wpList Tryd.prog ops Q rest (a.put o.dst (.slice A' (k + m) c')) w') :
    wpList Tryd.prog ops Q (o :: rest) a w := by
  refine wpList_plain hg fun K hK' => ?_
  obtain ⟨v', w', hrun, r1, r2, r3⟩ := run_bytes_mov w o.type base k v l hown B A m c l2 hr b1 hBw
  obtain ⟨A', c', rfl⟩ := r1.shape
  unfold Oper.wp
  simp [execOp, hop, resolve, invoke, builtin, hs, hx, hrun, Result.andThen]
  exact hK' _ _ (hK _ _ w' r1 r2 r3)

/-- bytes.Clone: new memory that holds the same. -/
theorem clone_any (A : Option Addr) (n c : Nat) (l : List UInt8) (B : Nat) (w : World) (hA : Bs w B A n l) (hB : B ≤ w.heap.size) (hn : n ≤ 140737488355328) :
    Calls Tryd.prog 72 #[.slice A n c] w fun e w' => ∃ A' c', e = .returned (.slice A' n c') ∧ OwnB w' w.heap.size (.slice A' n c') n l ∧ Below w.heap.size w w' := by
  have q := fun (w : World) (a : Option Addr) (n c n' c' : Nat) => Lib.run_eql_slice_nil (P := Tryd.prog) w 29 _ a n c n' c' Tryd.underlying29
  rcases A with _ | ad
  · have hm : n = 0 := by
      by_cases h : 0 < n
      · obtain ⟨ad, e, _⟩ := hA.2 h
        cases e
      · omega
    subst hm
    obtain rfl : l = [] := List.eq_nil_of_length_eq_zero hA.len
    go_enter Tryd.func72, Tryd.ntmps72
    go_wp2
    go_ret
    exact ⟨_, _, rfl, OwnB.nil_ _ _, Below.refl _ _⟩
  · go_enter Tryd.func72, Tryd.ntmps72
    go_wp2_with (at_builtin; refine wp_bytes_own _ rfl (.tmp 5) (.tmp 6) rfl w.heap.size 0 _ [] rfl (own_lit w w.heap.size 0 [] _ rfl rfl (by decide) (Nat.le_refl _)) _ _ n _ l rfl (hA.alloc hB _) (by omega) w.heap.size w ((Below.refl _ _).alloc (Nat.le_refl _) _) (Nat.le_refl _) (by simp) ?_)
    intro A' c' w' hO hb hsz
    try simp only [Nat.zero_add, List.nil_append] at hO
    go_wp2
    go_ret

    exact ⟨_, _, rfl, hO, hb⟩
/-- A row of the call's own that isn't the Writer's. -/
def Apart (v : Value) (b : Nat) (mg : Option Nat) : Prop := ∀ g, v.ownBlock = some g → g ≠ b ∧ some g ≠ mg
theorem OwnB.turn {w w' : World} {base b n : Nat} {mg : Option Nat} {v : Value} {l : List UInt8} (h : OwnB w base v n l) (ht : Turn w w' b mg) (ha : Apart v b mg) : OwnB w' base v n l := by
  refine ⟨h.1, ?_⟩
  rcases h.2 with h0 | ⟨g, cap, cur, rfl, hb, hh, r⟩
  · exact .inl h0
  · obtain ⟨h1, h2⟩ := ha g rfl
    exact .inr ⟨g, cap, cur, rfl, hb, (ht.block g (lt_of_heap hh) h1 h2).trans hh, r⟩
theorem Apart.mov {w : World} {base b n : Nat} {mg mg' : Option Nat} {v : Value} {l : List UInt8} (ha : Apart v b mg) (h : OwnB w base v n l) (hm : Mov w mg mg') : Apart v b mg' := by
  intro g hg
  refine ⟨(ha g hg).1, fun e => ?_⟩
  have hlt := (h.lt g hg).2
  rcases hm with rfl | ⟨g', rfl, hg'⟩
  · exact (ha g hg).2 e
  · injection e with e; omega
end Go.Proofs.YtjmkecaljkcoiaaDoor
namespace Go.Proofs.YtjmkecaljkcoiaaDoor
open Go.RowKit

theorem u64_xor_zero (a : Int) (h0 : 0 ≤ a) (h1 : a ≤ 18446744073709551615) : bits .xor .u64 a 0 = a := by
  rw [u64_xor a 0 h0 (by omega) (by omega) (by omega)]
  simp; omega
theorem nat_xor_ones64 (a : Nat) (h : a < 18446744073709551616) : a ^^^ 18446744073709551615 = 18446744073709551615 - a := by
  have e := congrArg BitVec.toNat (BitVec.xor_allOnes (x := BitVec.ofNat 64 a))
  rw [BitVec.toNat_xor, BitVec.toNat_not, BitVec.toNat_allOnes, BitVec.toNat_ofNat, Nat.mod_eq_of_lt (by omega)] at e
  have e2 : (2 : Nat) ^ 64 = 18446744073709551616 := by decide
  rw [e2] at e
  exact e
theorem u64_xor_ones (a : Int) (h0 : 0 ≤ a) (h1 : a ≤ 18446744073709551615) : bits .xor .u64 a 18446744073709551615 = 18446744073709551615 - a := by
  rw [u64_xor a _ h0 (by omega) (by omega) (by omega)]
  have := nat_xor_ones64 a.toNat (by omega)
  rw [show (18446744073709551615 : Int).toNat = 18446744073709551615 from rfl, this]
  omega
theorem i64_xor_zero (a : Int) (h0 : -9223372036854775808 ≤ a) (h1 : a ≤ 9223372036854775807) : bits .xor .i64 a 0 = a := by
  show IntKind.i64.wrap ((BitVec.ofInt 64 a ^^^ BitVec.ofInt 64 0).toNat : Int) = a
  rw [show BitVec.ofInt 64 0 = 0#64 from rfl, BitVec.xor_zero, BitVec.toNat_ofInt, IntKind.wrap_i64]
  have e2 : (2 : Int) ^ 64 = 18446744073709551616 := by decide
  simp only [Int.ofNat_toNat]
  have e3 : ((2 ^ 64 : Nat) : Int) = 18446744073709551616 := by decide
  rw [e3]
  omega
theorem i64_xor_comm (a b : Int) : bits .xor .i64 a b = bits .xor .i64 b a := by
  show IntKind.i64.wrap ((BitVec.ofInt 64 a ^^^ BitVec.ofInt 64 b).toNat : Int) = IntKind.i64.wrap ((BitVec.ofInt 64 b ^^^ BitVec.ofInt 64 a).toNat : Int)
  rw [BitVec.xor_comm]
theorem i64_xor_m1 (a : Int) (h0 : 0 ≤ a) (h1 : a ≤ 9223372036854775807) : bits .xor .i64 a (-1) = -1 - a := by
  obtain ⟨n, rfl⟩ := Int.eq_ofNat_of_zero_le h0
  rw [i64_xor_comm]
  exact i64_not n (by omega)
theorem u64_and_one (a : Int) (h0 : 0 ≤ a) (h1 : a ≤ 18446744073709551615) : bits .and .u64 a 1 = a % 2 := by
  rw [u64_and a 1 h0 (by omega) (by omega) (by omega)]
  rw [show (1 : Int).toNat = 1 from rfl, nat_mask1]
  omega
theorem u64_and_63 (a : Int) (h0 : 0 ≤ a) (h1 : a ≤ 18446744073709551615) : bits .and .u64 a 63 = a % 64 := by
  rw [u64_and a 63 h0 (by omega) (by omega) (by omega)]
  rw [show (63 : Int).toNat = 63 from rfl, nat_mask6]
  omega

/-- The zigzag. -/
def zigF (n : Int) : Int := if 0 ≤ n then 2 * n else -2 * n - 1
def zagF (n : Int) : Int := if n % 2 = 0 then n / 2 else -1 - n / 2
theorem zigF_pos {n : Int} (h : 0 ≤ n) : zigF n = 2 * n := if_pos h
theorem zigF_neg {n : Int} (h : n < 0) : zigF n = -2 * n - 1 := if_neg (by omega)
theorem zigF_bd {n : Int} (h0 : -9223372036854775808 ≤ n) (h1 : n ≤ 9223372036854775807) : 0 ≤ zigF n ∧ zigF n ≤ 18446744073709551615 := by
  unfold zigF; split <;> omega
theorem zagF_bd {n : Int} (h0 : 0 ≤ n) (h1 : n ≤ 18446744073709551615) : -9223372036854775808 ≤ zagF n ∧ zagF n ≤ 9223372036854775807 := by
  unfold zagF; split <;> omega
theorem zag_zig {n : Int} : zagF (zigF n) = n := by unfold zagF zigF; split <;> split <;> omega
theorem zig_zag {n : Int} (h0 : 0 ≤ n) : zigF (zagF n) = n := by unfold zagF zigF; split <;> split <;> omega
theorem zig_code {n : Int} (h0 : -9223372036854775808 ≤ n) (h1 : n ≤ 9223372036854775807) :
    bits .xor .u64 (IntKind.u64.wrap (IntKind.u64.wrap n * 2)) (IntKind.u64.wrap (n / 9223372036854775808)) = zigF n := by
  simp only [IntKind.wrap_u64]
  by_cases h : 0 ≤ n
  · rw [show n / 9223372036854775808 = 0 from by omega, show (0 : Int) % 18446744073709551616 = 0 from rfl, u64_xor_zero _ (by omega) (by omega), zigF_pos h]
    omega
  · rw [show n / 9223372036854775808 = -1 from by omega, show (-1 : Int) % 18446744073709551616 = 18446744073709551615 from rfl, u64_xor_ones _ (by omega) (by omega), zigF_neg (by omega)]
    omega
theorem zag_code {n : Int} (h0 : 0 ≤ n) (h1 : n ≤ 18446744073709551615) :
    bits .xor .i64 (n / 2) (wrap64 (-wrap64 (bits .and .u64 n 1))) = zagF n := by
  rw [u64_and_one n h0 h1]
  unfold zagF
  by_cases h : n % 2 = 0
  · rw [h, if_pos rfl, show wrap64 (-wrap64 0) = 0 from by unfold wrap64; omega]
    exact i64_xor_zero _ (by omega) (by omega)
  · rw [show n % 2 = 1 from by omega, if_neg (by decide), show wrap64 (-wrap64 1) = -1 from by unfold wrap64; omega]
    exact i64_xor_m1 _ (by omega) (by omega)
theorem zig_ref {n : Int} (h0 : -9223372036854775808 ≤ n) (h : n < 0) :
    IntKind.u64.wrap (IntKind.u64.wrap (IntKind.u64.wrap (-IntKind.u64.wrap n) * 2) - 1) = zigF n := by
  simp only [IntKind.wrap_u64]
  rw [zigF_neg h]
  omega

/-- n, its bits turned to the left by k places. -/
def turnF (n k : Nat) : Nat := 2 ^ k * (n % 2 ^ (64 - k)) + n / 2 ^ (64 - k)
theorem turnF_zero (n : Nat) (h : n < 18446744073709551616) : turnF n 0 = n := by
  unfold turnF
  simp only [Nat.pow_zero, Nat.one_mul, Nat.sub_zero]
  have e : (2 : Nat) ^ 64 = 18446744073709551616 := by decide
  rw [e, Nat.mod_eq_of_lt h, Nat.div_eq_of_lt h]; rfl
theorem pow_split {k : Nat} (hk : k ≤ 64) : 2 ^ (64 - k) * 2 ^ k = 18446744073709551616 := by
  rw [← Nat.pow_add, Nat.sub_add_cancel hk]
theorem turnF_lt (n k : Nat) (h : n < 18446744073709551616) (hk : k ≤ 64) : turnF n k < 18446744073709551616 := by
  unfold turnF
  have hs := pow_split hk
  have h1 : n % 2 ^ (64 - k) < 2 ^ (64 - k) := Nat.mod_lt _ (Nat.pow_pos (by decide))
  have h2 : n / 2 ^ (64 - k) < 2 ^ k := by rw [Nat.div_lt_iff_lt_mul (Nat.pow_pos (by decide)), Nat.mul_comm, hs]; exact h
  have h3 : 2 ^ k * (n % 2 ^ (64 - k)) + 2 ^ k ≤ 2 ^ k * 2 ^ (64 - k) := by
    rw [← Nat.mul_succ]; exact Nat.mul_le_mul_left _ h1
  rw [Nat.mul_comm (2 ^ k) (2 ^ (64 - k)), hs] at h3
  omega
theorem turn_back (n k : Nat) (h : n < 18446744073709551616) (h0 : 0 < k) (hk : k < 64) : turnF (turnF n k) (64 - k) = n := by
  have h2 : n / 2 ^ (64 - k) < 2 ^ k := by
    rw [Nat.div_lt_iff_lt_mul (Nat.pow_pos (by decide)), Nat.mul_comm, pow_split (by omega)]; exact h
  unfold turnF
  rw [show 64 - (64 - k) = k from by omega, Nat.add_comm (2 ^ k * _) _, Nat.add_mul_mod_self_left, Nat.mod_eq_of_lt h2, Nat.add_mul_div_left _ _ (Nat.pow_pos (by decide)), Nat.div_eq_of_lt h2, Nat.zero_add]
  exact Nat.div_add_mod _ _
/-- The bit at a place. -/
def bitB (n at_ : Nat) : Bool := decide (n / 2 ^ at_ % 2 = 1)
theorem mod_pow_bit (n m i : Nat) (h : i < m) : n % 2 ^ m / 2 ^ i % 2 = n / 2 ^ i % 2 := by
  have e : n % 2 ^ m / 2 ^ i = n / 2 ^ i % 2 ^ (m - i) := by
    rw [show (2 : Nat) ^ m = 2 ^ i * 2 ^ (m - i) from by rw [← Nat.pow_add]; congr 1; omega]
    exact Nat.mod_mul_right_div_self n (2 ^ i) (2 ^ (m - i))
  rw [e]
  exact Nat.mod_mod_of_dvd _ ⟨2 ^ (m - i - 1), by rw [Nat.mul_comm, ← Nat.pow_succ]; congr 1; omega⟩
theorem turn_bit (n k i : Nat) (h : n < 18446744073709551616) (hk : k < 64) (hi : i < 64) : bitB n i = bitB (turnF n k) ((i + k) % 64) := by
  have h2 : n / 2 ^ (64 - k) < 2 ^ k := by
    rw [Nat.div_lt_iff_lt_mul (Nat.pow_pos (by decide)), Nat.mul_comm, pow_split (by omega)]; exact h
  unfold bitB
  congr 2
  by_cases hc : i + k < 64
  · rw [Nat.mod_eq_of_lt hc, Nat.add_comm i k, Nat.pow_add, ← Nat.div_div_eq_div_mul]
    unfold turnF
    rw [Nat.add_comm (2 ^ k * _) _, Nat.add_mul_div_left _ _ (Nat.pow_pos (by decide)), Nat.div_eq_of_lt h2, Nat.zero_add, mod_pow_bit _ _ _ (by omega)]
  · rw [show (i + k) % 64 = i + k - 64 from by omega]
    have hj : i + k - 64 < k := by omega
    rw [← mod_pow_bit (turnF n k) k _ hj]
    unfold turnF
    rw [Nat.add_comm (2 ^ k * _) _, Nat.add_mul_mod_self_left, Nat.mod_eq_of_lt h2, Nat.div_div_eq_div_mul, ← Nat.pow_add, show 64 - k + (i + k - 64) = i from by omega]
theorem turn_code (n k : Nat) (h : n < 18446744073709551616) (hk : k < 64) :
    bits .or .u64 (IntKind.u64.wrap ((n : Int) * 2 ^ k)) ((n : Int) / 2 ^ (64 - k)) = (turnF n k : Int) := by
  have hs := pow_split (k := k) (by omega)
  have hp : (0 : Nat) < 2 ^ k := Nat.pow_pos (by decide)
  have hp2 : (0 : Nat) < 2 ^ (64 - k) := Nat.pow_pos (by decide)
  have e1 : IntKind.u64.wrap ((n : Int) * 2 ^ k) = ((2 ^ k * (n % 2 ^ (64 - k)) : Nat) : Int) := by
    rw [IntKind.wrap_u64, show (n : Int) * 2 ^ k = ((2 ^ k * n : Nat) : Int) from by push_cast; rw [Int.mul_comm]]
    rw [show (18446744073709551616 : Int) = ((2 ^ k * 2 ^ (64 - k) : Nat) : Int) from by rw [Nat.mul_comm, hs]; rfl, ← Int.natCast_emod, Nat.mul_mod_mul_left]
  have e2 : (n : Int) / 2 ^ (64 - k) = ((n / 2 ^ (64 - k) : Nat) : Int) := by rw [Int.natCast_ediv]; push_cast; rfl
  have l2 : n / 2 ^ (64 - k) < 2 ^ k := by rw [Nat.div_lt_iff_lt_mul hp2, Nat.mul_comm, hs]; exact h
  have l1 : 2 ^ k * (n % 2 ^ (64 - k)) + n / 2 ^ (64 - k) < 18446744073709551616 := turnF_lt n k h (by omega)
  have l3 : n / 2 ^ (64 - k) < 18446744073709551616 := Nat.lt_of_le_of_lt (Nat.le_add_left _ _) l1
  have l4 : 2 ^ k * (n % 2 ^ (64 - k)) < 18446744073709551616 := Nat.lt_of_le_of_lt (Nat.le_add_right _ _) l1
  rw [e1, e2, u64_or_nat _ _ l4 l3, nat_join k _ _ (Nat.mul_mod_right _ _) l2]
  rfl

/-- Is it a width? -/
def widthB (n : Int) : Bool := n == 1 || n == 2 || n == 4 || n == 8
theorem widthB_cases {n : Int} (h : widthB n = true) : n = 1 ∨ n = 2 ∨ n = 4 ∨ n = 8 := by
  simp [widthB] at h; omega
theorem widthB_no {n : Int} (h : widthB n = false) : n ≠ 1 ∧ n ≠ 2 ∧ n ≠ 4 ∧ n ≠ 8 := by
  simp [widthB] at h; omega
end Go.Proofs.YtjmkecaljkcoiaaDoor
