/-
  Contracts of Put and PutShort.
-/
import Derived.Test.YtgbfpolcefhemaaBytes1
import Derived.Test.YtgbfpolcefhemaaNum1
import Derived.Test.YtgbfpolcefhemaaForm1
import Derived.Deep.DeepMust
namespace Go.Proofs.Ytgbfpolcefhemaa
open Go.RowKit
set_option linter.unusedVariables false

theorem put_any (A : Option Addr) (n c : Nat) (l : List UInt8) (B : Nat) (x W : Nat) (w : World) (hA : Bs w B A n l) (hB : B ≤ w.heap.size) (hn : n ≤ 70368744177664) (_hx : x < 18446744073709551616) (hW : widthB (W : Int) = true) :
    Calls Try.prog 63 #[.slice A n c, .int .u64 (x : Int), .int .i64 (W : Int)] w fun e w' => e = .returned (.slice (some ⟨w.heap.size, 0, none⟩) (n + W) (n + W)) ∧
      OwnB w' w.heap.size (.slice (some ⟨w.heap.size, 0, none⟩) (n + W) (n + W)) (n + W) (l ++ formL x W) ∧ Below w.heap.size w w' ∧ w.heap.size < w'.heap.size := by
  have hW8 : W ≤ 8 := by have := widthB_cases hW; omega
  have hW1 : 1 ≤ W := by have := widthB_cases hW; omega
  go_enter Try.func63, Try.ntmps63
  go_wp2_with fail
  refine (width_any _ _).mono ?_
  rintro e w' ⟨rfl, rfl⟩
  rw [hW]
  go_wp2_with fail
  refine (copied_any A n c W l B _ hA hB (by omega) (by omega)).mono ?_
  rintro e w1 ⟨rfl, hown, hb, hlt⟩
  obtain ⟨g, hg⟩ : ∃ g, g = w.heap.size := ⟨_, rfl⟩
  rw [← hg] at hown hb hlt ⊢
  have HG := hide hg
  clear hg
  go_wp2
  go_loopw [7, 8] (fun v i wr => ∃ j : Nat, ∃ y : Int, j ≤ W ∧ i = .int .i64 y ∧ y = (W : Int) - 1 - (j : Int) ∧ v = .slice (some ⟨g, 0, none⟩) (n + j) (n + W) ∧
      OwnB wr g (.slice (some ⟨g, 0, none⟩) (n + j) (n + W)) (n + j) (l ++ formT x W j) ∧ Below g w wr ∧ g < wr.heap.size) (fun _ i _ => (intOf i + 1).toNat)
  case atStart => exact ⟨0, _, Nat.zero_le _, rfl, by omega, rfl, by simpa [formT_zero] using hown, hb, hlt⟩
  case round =>
    obtain ⟨j, y, hj, rfl, hy, rfl, hown, hb, hlt⟩ := hrel
    by_cases h0 : 0 ≤ y
    · obtain ⟨a, rfl⟩ := Int.eq_ofNat_of_zero_le h0
      have ha8 : a ≤ 7 := by omega
      have haj : a = W - 1 - j := by omega
      have HJ := hide haj
      have HY := hide hy
      clear haj hy
      go_wp2_with (at_builtin; refine wp_byte_fits _ rfl (.tmp 23) (.tmp 29) rfl g g (n + j) (n + W) _ rfl (hown.alloc _) wr.heap.size (lowB (x / 2 ^ (8 * a))) rfl ?c1 ?c2 g w (hb.alloc (by omega) _) ?c4 (Nat.le_refl _) ?_)
      case c1 => exact cell_lit1 _ _ (by rw [byteV, lowB_toNat]; congr 1)
      case c2 => have := HJ.out; have := HY.out; omega
      case c4 => simp; omega
      intro w2 hown2 hb2 hsz
      have hY := HY.out
      have hlt2 : g < w2.heap.size := by omega
      have HY2 := hide hY
      clear hY hown hb hlt
      go_wp2
      go_roundw
      case rel =>
        have hY := HY2.out
        refine ⟨j + 1, _, by omega, rfl, by omega, rfl, ?_, hb2, hlt2⟩
        rw [formT_succ, ← HJ.out]
        exact hown2
      case measure => simp [intOf]
    · obtain rfl : j = W := by omega
      have HY := hide hy
      clear hy
      go_wp2
      go_ret
      subst HG
      exact ⟨rfl, hown, hb, hlt⟩

theorem put_none (A : Option Addr) (n c : Nat) (l : List UInt8) (B : Nat) (x W : Int) (w : World) (hA : Bs w B A n l) (hB : B ≤ w.heap.size) (hn : n ≤ 70368744177664) (hW : widthB W = false) :
    Calls Try.prog 63 #[.slice A n c, .int .u64 x, .int .i64 W] w fun e w' => e = .returned (.slice (some ⟨w.heap.size, 0, none⟩) n (n + 0)) ∧
      OwnB w' w.heap.size (.slice (some ⟨w.heap.size, 0, none⟩) n (n + 0)) n l ∧ Below w.heap.size w w' ∧ w.heap.size < w'.heap.size := by
  go_enter Try.func63, Try.ntmps63
  go_wp2_with fail
  refine (width_any _ _).mono ?_
  rintro e w' ⟨rfl, rfl⟩
  rw [hW]
  go_wp2_with fail
  refine (copied_any A n c 0 l B _ hA hB (by omega) (by omega)).mono ?_
  rintro e w1 ⟨rfl, hown, hb, hlt⟩
  go_wp2
  go_ret
  exact ⟨rfl, hown, hb, hlt⟩

theorem pow_two_128 (k : Nat) : 2 * 128 ^ (k + 1) = 2 * 128 ^ k * 128 := by rw [Nat.pow_succ, Nat.mul_assoc]

/-- What holds of the numbers at the head of PutShort's round. -/
structure ShortInv (x n k m q : Nat) (d : List UInt8) : Prop where
  q_eq : q = n + d.length
  whole : shortL x = d ++ shortF k m
  left : d.length + k = 9
  small : m < 2 * 128 ^ k
theorem ShortInv.start (x n : Nat) (hx : x < 18446744073709551616) : ShortInv x n 9 x n [] := ⟨by simp, rfl, rfl, by omega⟩
theorem ShortInv.step {x n k m q : Nat} {d : List UInt8} (h : ShortInv x n k m q d) (hm : ¬ m < 128) : ∃ k', k = k' + 1 ∧ ShortInv x n k' (m / 128) (q + 1) (d ++ [lowB (m % 128 + 128)]) := by
  obtain ⟨h1, h2, h3, h4⟩ := h
  cases k with
  | zero => omega
  | succ k =>
    refine ⟨k, rfl, by simp; omega, by rw [h2, shortF_big _ _ hm]; simp, by simp; omega, ?_⟩
    rw [pow_two_128] at h4
    rw [Nat.div_lt_iff_lt_mul (by decide)]; exact h4
theorem ShortInv.stop {x n k m q : Nat} {d : List UInt8} (h : ShortInv x n k m q d) (hm : m < 128) : shortL x = d ++ [lowB m] ∧ q + 1 = n + (shortL x).length := by
  have e : shortL x = d ++ [lowB m] := by rw [h.whole, shortF_small _ _ hm]
  exact ⟨e, by rw [e, h.q_eq]; simp; omega⟩
theorem ShortInv.fits {x n k m q : Nat} {d : List UInt8} (h : ShortInv x n k m q d) : m < 18446744073709551616 := by
  have h1 := h.small
  have h2 := h.left
  have h3 : 128 ^ k ≤ 128 ^ 9 := Nat.pow_le_pow_right (by decide) (by omega)
  rw [show (128 : Nat) ^ 9 = 9223372036854775808 from rfl] at h3
  omega
theorem ShortInv.room {x n k m q : Nat} {d : List UInt8} (h : ShortInv x n k m q d) : q ≤ n + 9 := by
  have h1 := h.q_eq
  have h3 := h.left
  omega

set_option maxRecDepth 100000 in
theorem putShort_any (A : Option Addr) (n c : Nat) (l : List UInt8) (B : Nat) (x : Nat) (w : World) (hA : Bs w B A n l) (hB : B ≤ w.heap.size) (hn : n ≤ 70368744177664) (hx : x < 18446744073709551616) :
    Calls Try.prog 62 #[.slice A n c, .int .u64 (x : Int)] w fun e w' => e = .returned (.slice (some ⟨w.heap.size, 0, none⟩) (n + (shortL x).length) (n + 10)) ∧
      OwnB w' w.heap.size (.slice (some ⟨w.heap.size, 0, none⟩) (n + (shortL x).length) (n + 10)) (n + (shortL x).length) (l ++ shortL x) ∧ Below w.heap.size w w' ∧ w.heap.size < w'.heap.size := by
  have H0 := ShortInv.start x n hx
  clear hx
  go_enter Try.func62, Try.ntmps62
  go_wp2_with fail
  refine (copied_any A n c 10 l B _ hA hB (by omega) (by omega)).mono ?_
  rintro e w1 ⟨rfl, hown, hb, hlt⟩
  obtain ⟨g, hg⟩ : ∃ g, g = w.heap.size := ⟨_, rfl⟩
  rw [← hg] at hown hb hlt ⊢
  have HG := hide hg
  clear hg
  go_wp2
  go_loopw [1, 5] (fun i v wr => ∃ k m : Nat, ∃ d : List UInt8, ∃ q : Nat, i = .int .u64 m ∧ v = .slice (some ⟨g, 0, none⟩) q (n + 10) ∧ ShortInv x n k m q d ∧
      OwnB wr g (.slice (some ⟨g, 0, none⟩) q (n + 10)) q (l ++ d) ∧ Below g w wr ∧ g < wr.heap.size) (fun i _ _ => (intOf i).toNat)
  case atStart => exact ⟨9, x, [], n, rfl, rfl, H0, by simpa using hown, hb, hlt⟩
  case round =>
    obtain ⟨k, m, d, q, rfl, rfl, hinv, hown, hb, hlt⟩ := hrel
    have hq := hinv.room
    by_cases h1 : m < 128
    · go_wp2_with (at_builtin; refine wp_byte_fits _ rfl (.tmp 18) (.tmp 21) rfl g g q (n + 10) _ rfl (hown.alloc _) wr.heap.size (lowB m) rfl ?c1 ?c2 g w (hb.alloc (by omega) _) ?c4 (Nat.le_refl _) ?_)
      case c1 => exact cell_lit1 _ _ (by rw [byteV, lowB_toNat, Nat.mod_eq_of_lt (by omega)])
      case c2 => omega
      case c4 => simp; omega
      intro w2 hown2 hb2 hsz
      have hlt2 : g < w2.heap.size := by omega
      clear hown hb hlt
      obtain ⟨e1, e2⟩ := hinv.stop h1
      have E1 := hide e1
      have E2 := hide e2
      clear e1 e2
      go_wp2
      go_ret
      subst HG
      rw [E1.out] at E2 ⊢
      have e3 := E2.out
      rw [← e3]
      exact ⟨rfl, by simpa [E1.out] using hown2, hb2, hlt2⟩
    · go_wp2_with (at_builtin; refine wp_byte_fits _ rfl (.tmp 10) (.tmp 14) rfl g g q (n + 10) _ rfl (hown.alloc _) wr.heap.size (lowB (m % 128 + 128)) rfl ?d1 ?d2 g w (hb.alloc (by omega) _) ?d4 (Nat.le_refl _) ?_)
      case d1 => exact cell_lit1 _ _ (by rw [byteV, ← or128, IntKind.wrap_u8'])
      case d2 => omega
      case d4 => simp; omega
      intro w2 hown2 hb2 hsz
      have hlt2 : g < w2.heap.size := by omega
      clear hown hb hlt
      obtain ⟨k2, _, hinv2⟩ := hinv.step h1
      go_wp2
      go_roundw
      case rel => exact ⟨k2, m / 128, _, q + 1, by go_num, rfl, hinv2, by simpa using hown2, hb2, hlt2⟩
      case measure => simp [intOf]; omega
end Go.Proofs.Ytgbfpolcefhemaa
