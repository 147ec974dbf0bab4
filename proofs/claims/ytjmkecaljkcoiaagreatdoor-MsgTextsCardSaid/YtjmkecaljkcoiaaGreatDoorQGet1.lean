import Derived.WalkSpells
import Derived.Lib.SliceRun
import Derived.Test.YtjmkecaljkcoiaaGreatDoorQTurn
import Derived.Test.YtjmkecaljkcoiaaGreatDoorQBytes1
import Derived.WalkKit
import Derived.Laws.BitsAllLaws
import Derived.Laws.DeepNot64
import Derived.Test.YtjmkecaljkcoiaaGreatDoorRows
import Derived.Outline
import Derived.Test.YtjmkecaljkcoiaaGreatDoorQOpenF
import Derived.Laws.Bits128
import Derived.Deep.DeepMust
namespace Go.Proofs.YtjmkecaljkcoiaaGreatDoor
open Go.RowKit
set_option linter.unusedVariables false
set_option linter.unusedSimpArgs false
set_option maxRecDepth 100000 in
theorem run_bytes_mov (w : World) (ty : TypeId) (base k : Nat) (v : Value) (l : List UInt8) (hown : OwnB w base v k l)
    (B : Nat) (A : Option Addr) (m c : Nat) (l2 : List UInt8) (hr : Bs w B A m l2) (b1 : k + m ≤ 140737488355328) (hBw : base ≤ w.heap.size) :
    ∃ v' w', (Builtin.append_ #[39, 39] ty #[v, .slice A m c]).run Tryz.prog w = .ok v' w' ∧ OwnB w' base v' (k + m) (l ++ l2) ∧ w.grownBy w' v.ownBlock ∧ Mov w v.ownBlock v'.ownBlock := by
  obtain ⟨i0, hi, hz0, hz1, hz2⟩ := info_parts info_u8
  rcases A with _ | ad
  · have hm : m = 0 := by
      by_cases h : 0 < m
      · obtain ⟨ad, e, _⟩ := hr.2 h
        cases e
      · omega
    subst hm
    obtain rfl : l2 = [] := List.eq_nil_of_length_eq_zero hr.len
    exact ⟨v, w, run_append_of_nil w base _ _ 5 i0 1 Tryz.underlying39 hi v k _ hown c, by simpa using hown, World.grownBy.refl _ _, Mov.refl _ _⟩
  · have hl2 : (bvs l2).length = m * 1 := by rw [bvs_len, hr.len]; omega
    have hc : ∀ j u, (bvs l2)[j]? = some u → w.cell? (ad.add j) = some u := by
      intro j u hu
      by_cases hm : 0 < m
      · obtain ⟨ad', e, _, hc⟩ := hr.2 hm
        injection e with e
        subst e
        rw [bvs, List.getElem?_map, Option.map_eq_some_iff] at hu
        obtain ⟨x, hx, rfl⟩ := hu
        exact hc j x hx
      · obtain rfl : l2 = [] := List.eq_nil_of_length_eq_zero (by rw [hr.len]; omega)
        simp [bvs] at hu
    obtain ⟨v', w', h1, h2, h3, h4⟩ := run_append_own (P := Tryz.prog) w base 39 ty 5 i0 _ 1 1 Tryz.underlying39 hi hz0 hz1 hz2 rfl (by decide) v k _ hown ad m c (bvs l2) hl2 hc (bvs_one l2) (by unfold maxLen; omega) (by omega) hBw
    refine ⟨v', w', h1, by unfold OwnB; rw [bvs_append]; exact h2, h3, ?_⟩
    rcases hown.2 with ⟨rfl, rfl⟩ | ⟨g, cap, cur, rfl, hbg, hg, hnc, hcm, hcs, htake⟩
    · by_cases hm : m = 0
      · subst hm
        obtain rfl := h4.2 ⟨rfl, rfl⟩
        exact Mov.refl _ _
      · have hrun := run_append_nil (P := Tryz.prog) w 39 ty 5 i0 _ Tryz.underlying39 hi hz0 ad m c (bvs l2) (by rw [hl2, hz1]) hc (by omega) (by omega) (by rw [hz2]; omega)
        rw [h1] at hrun
        injection hrun with e1 e2
        subst e1
        exact .inr ⟨_, rfl, Nat.le_refl _⟩
    · by_cases hroom : k + m ≤ cap
      · have hrun := run_append_room (P := Tryz.prog) w 39 ty 5 i0 Tryz.underlying39 hi g k cap cur hg ad m c (bvs l2) (by rw [hl2, hz1]) hc (bvs_one l2) hroom (by rw [hz1, hl2, hcs]; omega)
        rw [h1] at hrun
        injection hrun with e1 e2
        subst e1
        exact Mov.refl _ _
      · have holds : ∀ j u, (bvs l)[j]? = some u → w.cell? ((⟨g, 0, none⟩ : Addr).add j) = some u := World.ownsRow.cells (g := g) hown rfl
        have hrun := run_append_grow (P := Tryz.prog) w 39 ty 5 i0 _ Tryz.underlying39 hi hz0 ⟨g, 0, none⟩ k cap (bvs l) (by rw [hown.1, hz1]) holds ad m c (bvs l2) (by rw [hl2, hz1]) hc (by omega) (by omega) (growslice_fits (by omega) (by rw [hz2]; omega))
        rw [h1] at hrun
        injection hrun with e1 e2
        subst e1
        exact .inr ⟨_, rfl, Nat.le_refl _⟩
theorem wp_bytes_mov {ops : Array Oper} {rest : List Oper} {o : Oper} {a : Act} {Q : Exit → Act → World → Prop} (w : World) (hg : o.guard = none) (s x : Operand)
    (hop : o.op = Op.call { callee := Callee.builtin Builtin.append, args := #[s, x], argTypes := #[39, 39] })
    (base k : Nat) (v : Value) (l : List UInt8) (hs : a.eval s = v) (hown : OwnB w base v k l)
    (B : Nat) (A : Option Addr) (m c : Nat) (l2 : List UInt8) (hx : a.eval x = .slice A m c) (hr : Bs w B A m l2) (b1 : k + m ≤ 140737488355328) (hBw : base ≤ w.heap.size)
    (hK : ∀ A' c' w', OwnB w' base (.slice A' (k + m) c') (k + m) (l ++ l2) → w.grownBy w' v.ownBlock → Mov w v.ownBlock (Value.slice A' (k + m) c').ownBlock → wpList Tryz.prog ops Q rest (a.put o.dst (.slice A' (k + m) c')) w') :
    wpList Tryz.prog ops Q (o :: rest) a w := by
  refine wpList_plain hg fun K hK' => ?_
  obtain ⟨v', w', hrun, r1, r2, r3⟩ := run_bytes_mov w o.type base k v l hown B A m c l2 hr b1 hBw
  obtain ⟨A', c', rfl⟩ := r1.shape
  unfold Oper.wp
  simp [execOp, hop, resolve, invoke, builtin, hs, hx, hrun, Result.andThen]
  exact hK' _ _ (hK _ _ w' r1 r2 r3)
theorem clone_any (A : Option Addr) (n c : Nat) (l : List UInt8) (B : Nat) (w : World) (hA : Bs w B A n l) (hB : B ≤ w.heap.size) (hn : n ≤ 140737488355328) :
    Calls Tryz.prog 102 #[.slice A n c] w fun e w' => ∃ A' c', e = .returned (.slice A' n c') ∧ OwnB w' w.heap.size (.slice A' n c') n l ∧ Below w.heap.size w w' := by
  have q := fun (w : World) (a : Option Addr) (n c n' c' : Nat) => Lib.run_eql_slice_nil (P := Tryz.prog) w 39 _ a n c n' c' Tryz.underlying39
  rcases A with _ | ad
  · have hm : n = 0 := by
      by_cases h : 0 < n
      · obtain ⟨ad, e, _⟩ := hA.2 h
        cases e
      · omega
    subst hm
    obtain rfl : l = [] := List.eq_nil_of_length_eq_zero hA.len
    go_enter Tryz.func102, Tryz.ntmps102
    go_wp2
    go_ret
    exact ⟨_, _, rfl, OwnB.nil_ _ _, Below.refl _ _⟩
  · go_enter Tryz.func102, Tryz.ntmps102
    go_wp2_with (at_builtin; refine wp_bytes_own _ rfl (.tmp 5) (.tmp 6) rfl w.heap.size 0 _ [] rfl (own_lit w w.heap.size 0 [] _ rfl rfl (by decide) (Nat.le_refl _)) _ _ n _ l rfl (hA.alloc hB _) (by omega) w.heap.size w ((Below.refl _ _).alloc (Nat.le_refl _) _) (Nat.le_refl _) (by simp) ?_)
    intro A' c' w' hO hb hsz
    try simp only [Nat.zero_add, List.nil_append] at hO
    go_wp2
    go_ret
    exact ⟨_, _, rfl, hO, hb⟩
def Apart (v : Value) (b : Nat) (mg : Option Nat) : Prop := ∀ g, v.ownBlock = some g → g ≠ b ∧ some g ≠ mg
theorem OwnB.turn {w w' : World} {base b n : Nat} {mg : Option Nat} {v : Value} {l : List UInt8} (h : OwnB w base v n l) (ht : Turn w w' b mg) (ha : Apart v b mg) : OwnB w' base v n l := by
  refine ⟨h.1, ?_⟩
  rcases h.2 with h0 | ⟨g, cap, cur, rfl, hb, hh, r⟩
  · exact .inl h0
  · obtain ⟨h1, h2⟩ := ha g rfl
    exact .inr ⟨g, cap, cur, rfl, hb, (ht.block g (lt_of_heap hh) h1 h2).trans hh, r⟩
end Go.Proofs.YtjmkecaljkcoiaaGreatDoor
namespace Go.Proofs.YtjmkecaljkcoiaaGreatDoor
open Go.RowKit
def zigF (n : Int) : Int := if 0 ≤ n then 2 * n else -2 * n - 1
def zagF (n : Int) : Int := if n % 2 = 0 then n / 2 else -1 - n / 2
def turnF (n k : Nat) : Nat := 2 ^ k * (n % 2 ^ (64 - k)) + n / 2 ^ (64 - k)
def bitB (n at_ : Nat) : Bool := decide (n / 2 ^ at_ % 2 = 1)
def widthB (n : Int) : Bool := n == 1 || n == 2 || n == 4 || n == 8
theorem widthB_cases {n : Int} (h : widthB n = true) : n = 1 ∨ n = 2 ∨ n = 4 ∨ n = 8 := by
  simp [widthB] at h; omega
end Go.Proofs.YtjmkecaljkcoiaaGreatDoor
namespace Go.Proofs.YtjmkecaljkcoiaaGreatDoor
open Go.RowKit
set_option linter.unusedVariables false
theorem width_any (n : Int) (w : World)  :
    Calls Tryz.prog 208 #[.int .i64 n] w fun e w' => e = .returned (.bool (widthB n)) ∧ w = w' := by
  go_enter Tryz.func208, Tryz.ntmps208
  go_wp2
  all_goals go_ret
  all_goals exact ⟨ret_bool (by simp_all [widthB]), rfl⟩
end Go.Proofs.YtjmkecaljkcoiaaGreatDoor
namespace Go.Proofs.YtjmkecaljkcoiaaGreatDoor
open Go.RowKit
def lowB (n : Nat) : UInt8 := UInt8.ofNat n
theorem lowB_toNat (n : Nat) : (lowB n).toNat = n % 256 := by simp [lowB]
theorem wrap_u8_low (n : Nat) : IntKind.u8.wrap (n : Int) = ((lowB n).toNat : Int) := by
  rw [IntKind.wrap_u8', lowB_toNat]; omega
def formT (n w j : Nat) : List UInt8 := (List.range j).map fun i => lowB (n / 2 ^ (8 * (w - 1 - i)))
def formL (n w : Nat) : List UInt8 := formT n w w
theorem formT_zero (n w : Nat) : formT n w 0 = [] := rfl
theorem formT_succ (n w j : Nat) : formT n w (j + 1) = formT n w j ++ [lowB (n / 2 ^ (8 * (w - 1 - j)))] := by
  simp [formT, List.range_succ]
def numL (l : List UInt8) : Nat := l.foldl (fun a x => a * 256 + x.toNat) 0
def shortF : Nat → Nat → List UInt8
  | 0, n => [lowB n]
  | k + 1, n => if n < 128 then [lowB n] else lowB (n % 128 + 128) :: shortF k (n / 128)
def shortL (n : Nat) : List UInt8 := shortF 9 n
theorem shortF_small (k n : Nat) (h : n < 128) : shortF k n = [lowB n] := by cases k <;> simp [shortF, h]
theorem shortF_big (k n : Nat) (h : ¬ n < 128) : shortF (k + 1) n = lowB (n % 128 + 128) :: shortF k (n / 128) := by simp [shortF, h]
theorem shortF_len (k n : Nat) : 1 ≤ (shortF k n).length ∧ (shortF k n).length ≤ k + 1 := by
  induction k generalizing n with
  | zero => simp [shortF]
  | succ k ih =>
    by_cases hn : n < 128
    · rw [shortF_small _ _ hn]; simp
    · rw [shortF_big _ _ hn]; have := ih (n / 128); simp; omega
theorem or128 (n : Nat) : bits .or .u8 (IntKind.u8.wrap (n : Int)) 128 = ((lowB (n % 128 + 128)).toNat : Int) := by
  rw [wrap_u8_low, lowB_toNat, lowB_toNat]
  have h1 : ((n % 256 : Nat) : Int) = ((n % 256 : Nat) : Int) := rfl
  rw [show (128 : Int) = ((128 : Nat) : Int) from rfl, u8_or_nat _ _ (by omega) (by omega)]
  have e : (n % 256) ||| 128 = n % 128 + 128 := by
    have h : n % 256 = n % 128 + (n % 256 / 128) * 128 := by omega
    have h2 : n % 256 / 128 = 0 ∨ n % 256 / 128 = 1 := by omega
    have j1 : (128 : Nat) ||| (n % 128) = 128 + n % 128 := nat_join 7 128 (n % 128) (by decide) (by have := Nat.mod_lt n (show 0 < 128 by decide); omega)
    rcases h2 with h2 | h2
    · rw [h, h2, Nat.zero_mul, Nat.add_zero, Nat.or_comm, j1]; omega
    · rw [h, h2, Nat.one_mul]
      have j2 : n % 128 + 128 = (128 : Nat) ||| (n % 128) := by rw [j1]; omega
      rw [j2, Nat.or_comm, ← Nat.or_assoc, Nat.or_self]
  rw [e]; omega
end Go.Proofs.YtjmkecaljkcoiaaGreatDoor
namespace Go.Proofs.YtjmkecaljkcoiaaGreatDoor
open Go.RowKit
set_option linter.unusedVariables false
theorem put_any (A : Option Addr) (n c : Nat) (l : List UInt8) (B : Nat) (x W : Nat) (w : World) (hA : Bs w B A n l) (hB : B ≤ w.heap.size) (hn : n ≤ 70368744177664) (_hx : x < 18446744073709551616) (hW : widthB (W : Int) = true) :
    Calls Tryz.prog 200 #[.slice A n c, .int .u64 x, .int .i64 W] w fun e w' => e = .returned (.slice (some ⟨w.heap.size, 0, none⟩) (n + W) (n + W)) ∧
      OwnB w' w.heap.size (.slice (some ⟨w.heap.size, 0, none⟩) (n + W) (n + W)) (n + W) (l ++ formL x W) ∧ Below w.heap.size w w' ∧ w.heap.size < w'.heap.size := by
  have hW8 : W ≤ 8 := by have := widthB_cases hW; omega
  have hW1 : 1 ≤ W := by have := widthB_cases hW; omega
  go_enter Tryz.func200, Tryz.ntmps200
  go_wp2_with fail
  refine (width_any _ _).mono ?_
  rintro e w' ⟨rfl, rfl⟩
  rw [hW]
  go_wp2_with fail
  refine (copied_any A n c W l B _ hA hB (by omega) (by omega)).mono ?_
  rintro e w1 ⟨rfl, hown, hb, hlt⟩
  obtain ⟨g, hg⟩ : ∃ g, g = w.heap.size := ⟨_, rfl⟩
  rw [← hg] at hown hb hlt ⊢
  have HG := hide hg
  clear hg
  go_wp2
  go_loopw [7, 8] (fun v i wr => ∃ j : Nat, ∃ y : Int, j ≤ W ∧ i = .int .i64 y ∧ y = (W : Int) - 1 - (j : Int) ∧ v = .slice (some ⟨g, 0, none⟩) (n + j) (n + W) ∧
      OwnB wr g (.slice (some ⟨g, 0, none⟩) (n + j) (n + W)) (n + j) (l ++ formT x W j) ∧ Below g w wr ∧ g < wr.heap.size) (fun _ i _ => (intOf i + 1).toNat)
  case atStart => exact ⟨0, _, Nat.zero_le _, rfl, by omega, rfl, by simpa [formT_zero] using hown, hb, hlt⟩
  case round =>
    obtain ⟨j, y, hj, rfl, hy, rfl, hown, hb, hlt⟩ := hrel
    by_cases h0 : 0 ≤ y
    · obtain ⟨a, rfl⟩ := Int.eq_ofNat_of_zero_le h0
      have ha8 : a ≤ 7 := by omega
      have haj : a = W - 1 - j := by omega
      have HJ := hide haj
      have HY := hide hy
      clear haj hy
      go_wp2_with (at_builtin; refine wp_byte_fits _ rfl (.tmp 23) (.tmp 29) rfl g g (n + j) (n + W) _ rfl (hown.alloc _) wr.heap.size (lowB (x / 2 ^ (8 * a))) rfl ?c1 ?c2 g w (hb.alloc (by omega) _) ?c4 (Nat.le_refl _) ?_)
      case c1 => exact cell_lit1 _ _ (by rw [byteV, lowB_toNat]; congr 1)
      case c2 => have := HJ.out; have := HY.out; omega
      case c4 => simp; omega
      intro w2 hown2 hb2 hsz
      have hY := HY.out
      have hlt2 : g < w2.heap.size := by omega
      have HY2 := hide hY
      clear hY hown hb hlt
      go_wp2
      go_roundw
      case rel =>
        have hY := HY2.out
        refine ⟨j + 1, _, by omega, rfl, by omega, rfl, ?_, hb2, hlt2⟩
        rw [formT_succ, ← HJ.out]
        exact hown2
      case measure => simp [intOf]
    · obtain rfl : j = W := by omega
      have HY := hide hy
      clear hy
      go_wp2
      go_ret
      subst HG
      exact ⟨rfl, hown, hb, hlt⟩
theorem pow_two_128 (k : Nat) : 2 * 128 ^ (k + 1) = 2 * 128 ^ k * 128 := by rw [Nat.pow_succ, Nat.mul_assoc]
structure ShortInv (x n k m q : Nat) (d : List UInt8) : Prop where
  q_eq : q = n + d.length
  whole : shortL x = d ++ shortF k m
  left : d.length + k = 9
  small : m < 2 * 128 ^ k
theorem ShortInv.start (x n : Nat) (hx : x < 18446744073709551616) : ShortInv x n 9 x n [] := ⟨by simp, rfl, rfl, by omega⟩
theorem ShortInv.step {x n k m q : Nat} {d : List UInt8} (h : ShortInv x n k m q d) (hm : ¬ m < 128) : ∃ k', k = k' + 1 ∧ ShortInv x n k' (m / 128) (q + 1) (d ++ [lowB (m % 128 + 128)]) := by
  obtain ⟨h1, h2, h3, h4⟩ := h
  cases k with
  | zero => omega
  | succ k =>
    refine ⟨k, rfl, by simp; omega, by rw [h2, shortF_big _ _ hm]; simp, by simp; omega, ?_⟩
    rw [pow_two_128] at h4
    rw [Nat.div_lt_iff_lt_mul (by decide)]; exact h4
theorem ShortInv.stop {x n k m q : Nat} {d : List UInt8} (h : ShortInv x n k m q d) (hm : m < 128) : shortL x = d ++ [lowB m] ∧ q + 1 = n + (shortL x).length := by
  have e : shortL x = d ++ [lowB m] := by rw [h.whole, shortF_small _ _ hm]
  exact ⟨e, by rw [e, h.q_eq]; simp; omega⟩
theorem ShortInv.fits {x n k m q : Nat} {d : List UInt8} (h : ShortInv x n k m q d) : m < 18446744073709551616 := by
  have h1 := h.small
  have h2 := h.left
  have h3 : 128 ^ k ≤ 128 ^ 9 := Nat.pow_le_pow_right (by decide) (by omega)
  rw [show (128 : Nat) ^ 9 = 9223372036854775808 from rfl] at h3
  omega
theorem ShortInv.room {x n k m q : Nat} {d : List UInt8} (h : ShortInv x n k m q d) : q ≤ n + 9 := by
  have h1 := h.q_eq
  have h3 := h.left
  omega
set_option maxRecDepth 100000 in
theorem putShort_any (A : Option Addr) (n c : Nat) (l : List UInt8) (B : Nat) (x : Nat) (w : World) (hA : Bs w B A n l) (hB : B ≤ w.heap.size) (hn : n ≤ 70368744177664) (hx : x < 18446744073709551616) :
    Calls Tryz.prog 198 #[.slice A n c, .int .u64 x] w fun e w' => e = .returned (.slice (some ⟨w.heap.size, 0, none⟩) (n + (shortL x).length) (n + 10)) ∧
      OwnB w' w.heap.size (.slice (some ⟨w.heap.size, 0, none⟩) (n + (shortL x).length) (n + 10)) (n + (shortL x).length) (l ++ shortL x) ∧ Below w.heap.size w w' ∧ w.heap.size < w'.heap.size := by
  have H0 := ShortInv.start x n hx
  clear hx
  go_enter Tryz.func198, Tryz.ntmps198
  go_wp2_with fail
  refine (copied_any A n c 10 l B _ hA hB (by omega) (by omega)).mono ?_
  rintro e w1 ⟨rfl, hown, hb, hlt⟩
  obtain ⟨g, hg⟩ : ∃ g, g = w.heap.size := ⟨_, rfl⟩
  rw [← hg] at hown hb hlt ⊢
  have HG := hide hg
  clear hg
  go_wp2
  go_loopw [1, 5] (fun i v wr => ∃ k m : Nat, ∃ d : List UInt8, ∃ q : Nat, i = .int .u64 m ∧ v = .slice (some ⟨g, 0, none⟩) q (n + 10) ∧ ShortInv x n k m q d ∧
      OwnB wr g (.slice (some ⟨g, 0, none⟩) q (n + 10)) q (l ++ d) ∧ Below g w wr ∧ g < wr.heap.size) (fun i _ _ => (intOf i).toNat)
  case atStart => exact ⟨9, x, [], n, rfl, rfl, H0, by simpa using hown, hb, hlt⟩
  case round =>
    obtain ⟨k, m, d, q, rfl, rfl, hinv, hown, hb, hlt⟩ := hrel
    have hq := hinv.room
    by_cases h1 : m < 128
    · go_wp2_with (at_builtin; refine wp_byte_fits _ rfl (.tmp 18) (.tmp 21) rfl g g q (n + 10) _ rfl (hown.alloc _) wr.heap.size (lowB m) rfl ?c1 ?c2 g w (hb.alloc (by omega) _) ?c4 (Nat.le_refl _) ?_)
      case c1 => exact cell_lit1 _ _ (by rw [byteV, lowB_toNat, Nat.mod_eq_of_lt (by omega)])
      case c2 => omega
      case c4 => simp; omega
      intro w2 hown2 hb2 hsz
      have hlt2 : g < w2.heap.size := by omega
      clear hown hb hlt
      obtain ⟨e1, e2⟩ := hinv.stop h1
      have E1 := hide e1
      have E2 := hide e2
      clear e1 e2
      go_wp2
      go_ret
      subst HG
      rw [E1.out] at E2 ⊢
      have e3 := E2.out
      rw [← e3]
      exact ⟨rfl, by simpa [E1.out] using hown2, hb2, hlt2⟩
    · go_wp2_with (at_builtin; refine wp_byte_fits _ rfl (.tmp 10) (.tmp 14) rfl g g q (n + 10) _ rfl (hown.alloc _) wr.heap.size (lowB (m % 128 + 128)) rfl ?d1 ?d2 g w (hb.alloc (by omega) _) ?d4 (Nat.le_refl _) ?_)
      case d1 => exact cell_lit1 _ _ (by rw [byteV, ← or128, IntKind.wrap_u8'])
      case d2 => omega
      case d4 => simp; omega
      intro w2 hown2 hb2 hsz
      have hlt2 : g < w2.heap.size := by omega
      clear hown hb hlt
      obtain ⟨k2, _, hinv2⟩ := hinv.step h1
      go_wp2
      go_roundw
      case rel => exact ⟨k2, m / 128, _, q + 1, by go_num, rfl, hinv2, by simpa using hown2, hb2, hlt2⟩
      case measure => simp [intOf]; omega
end Go.Proofs.YtjmkecaljkcoiaaGreatDoor
namespace Go.Proofs.YtjmkecaljkcoiaaGreatDoor
open Go.RowKit
set_option linter.unusedVariables false
def getR : Nat → Nat → List UInt8 → Nat × Nat × Nat
  | _, _, [] => (0, 0, 2)
  | i, acc, c :: t =>
    if i = 9 ∧ 1 < c.toNat then (0, 0, 5)
    else if 128 ≤ c.toNat then getR (i + 1) (acc + c.toNat % 128 * 2 ^ (7 * i)) t
    else if c.toNat = 0 ∧ 0 < i then (0, 0, 5)
    else (acc + c.toNat % 128 * 2 ^ (7 * i), i + 1, 0)
def getF (l : List UInt8) : Nat × Nat × Nat := getR 0 0 l
structure GetInv (l : List UInt8) (j acc : Nat) : Prop where
  whole : getF l = getR j acc (l.drop j)
  upto : j ≤ 9
  small : acc < 2 ^ (7 * j)
theorem GetInv.start (l : List UInt8) : GetInv l 0 0 := ⟨rfl, by omega, by decide⟩
section
variable {l : List UInt8} {j acc y : Nat}
theorem GetInv.end_ (h : GetInv l j acc) (hj : l.length ≤ j) : getF l = (0, 0, 2) := by
  rw [h.whole, List.drop_eq_nil_of_le hj, getR]
theorem GetInv.form (h : GetInv l j acc) (hj : j < l.length) (hy : y = l[j].toNat) (h9 : j = 9) (h1 : 1 < y) : getF l = (0, 0, 5) := by
  rw [h.whole, List.drop_eq_getElem_cons hj, getR, if_pos ⟨h9, by omega⟩]
theorem GetInv.zero (h : GetInv l j acc) (hj : j < l.length) (hy : y = l[j].toNat) (h0 : y = 0) (h1 : 0 < j) : getF l = (0, 0, 5) := by
  rw [h.whole, List.drop_eq_getElem_cons hj, getR, if_neg (by omega), if_neg (by omega), if_pos ⟨by omega, h1⟩]
theorem GetInv.done (h : GetInv l j acc) (hj : j < l.length) (hy : y = l[j].toNat) (h9 : ¬ (j = 9 ∧ 1 < y)) (h1 : y < 128) (h2 : ¬ (y = 0 ∧ 0 < j)) : getF l = (acc + y % 128 * 2 ^ (7 * j), j + 1, 0) := by
  rw [h.whole, List.drop_eq_getElem_cons hj, getR, if_neg (by omega), if_neg (by omega), if_neg (by omega), ← hy]
theorem GetInv.step (h : GetInv l j acc) (hj : j < l.length) (hy : y = l[j].toNat) (h9 : ¬ (j = 9 ∧ 1 < y)) (h1 : 128 ≤ y) : GetInv l (j + 1) (acc + y % 128 * 2 ^ (7 * j)) := by
  have hs := h.small
  refine ⟨by rw [h.whole, List.drop_eq_getElem_cons hj, getR, if_neg (by omega), if_pos (by omega), ← hy], by have := h.upto; omega, ?_⟩
  have e : 2 ^ (7 * (j + 1)) = 128 * 2 ^ (7 * j) := by rw [show (128 : Nat) = 2 ^ 7 from rfl, ← Nat.pow_add]; congr 1; omega
  rw [e]
  have h3 : y % 128 * 2 ^ (7 * j) ≤ 127 * 2 ^ (7 * j) := Nat.mul_le_mul_right _ (by omega)
  omega
theorem GetInv.fits (h : GetInv l j acc) (hy : y < 256) (h9 : ¬ (j = 9 ∧ 1 < y)) : y % 128 * 2 ^ (7 * j) < 18446744073709551616 ∧ acc + y % 128 * 2 ^ (7 * j) < 18446744073709551616 ∧ acc < 18446744073709551616 ∧ 2 ^ (7 * j) < 18446744073709551616 := by
  have hs := h.small
  have hu := h.upto
  by_cases hj9 : j = 9
  · subst hj9
    have : y % 128 ≤ 1 := by omega
    simp only [show 7 * 9 = 63 from rfl] at *
    omega
  · have h2 : 2 ^ (7 * j) ≤ 2 ^ 56 := Nat.pow_le_pow_right (by decide) (by omega)
    have h3 : y % 128 * 2 ^ (7 * j) ≤ 127 * 2 ^ 56 := Nat.mul_le_mul (by omega) h2
    simp only [show (2 : Nat) ^ 56 = 72057594037927936 from rfl] at *
    omega
end
theorem shortL_len (n : Nat) : 1 ≤ (shortL n).length ∧ (shortL n).length ≤ 10 := shortF_len 9 n
end Go.Proofs.YtjmkecaljkcoiaaGreatDoor
namespace Go.Proofs.YtjmkecaljkcoiaaGreatDoor
open Go.RowKit
set_option linter.unusedVariables false
def narrowF (n W : Nat) : Nat := n % 2 ^ (8 * W)
end Go.Proofs.YtjmkecaljkcoiaaGreatDoor
