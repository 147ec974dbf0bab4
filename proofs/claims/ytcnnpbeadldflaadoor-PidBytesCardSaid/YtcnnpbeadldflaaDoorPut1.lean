/-
  Contracts of Put and PutShort.
-/
import Derived.Test.YtcnnpbeadldflaaDoorBytes1
import Derived.Test.YtcnnpbeadldflaaDoorNum1
import Derived.Test.YtcnnpbeadldflaaDoorForm1
import Derived.Deep.DeepMust
namespace Go.Proofs.YtcnnpbeadldflaaDoor
open Go.RowKit
set_option linter.unusedVariables false

theorem pow_two_128 (k : Nat) : 2 * 128 ^ (k + 1) = 2 * 128 ^ k * 128 := by rw [Nat.pow_succ, Nat.mul_assoc]

/-- What holds of the numbers at the head of PutShort's round. -/
structure ShortInv (x n k m q : Nat) (d : List UInt8) : Prop where
  q_eq : q = n + d.length
  whole : shortL x = d ++ shortF k m
  left : d.length + k = 9
  small : m < 2 * 128 ^ k
theorem ShortInv.start (x n : Nat) (hx : x < 18446744073709551616) : ShortInv x n 9 x n [] := ⟨by simp, rfl, rfl, by omega⟩
theorem ShortInv.step {x n k m q : Nat} {d : List UInt8} (h : ShortInv x n k m q d) (hm : ¬ m < 128) : ∃ k', k = k' + 1 ∧ ShortInv x n k' (m / 128) (q + 1) (d ++ [lowB (m % 128 + 128)]) := by
  obtain ⟨h1, h2, h3, h4⟩ := h
  cases k with
  | zero => omega
  | succ k =>
    refine ⟨k, rfl, by simp; omega, by rw [h2, shortF_big _ _ hm]; simp, by simp; omega, ?_⟩
    rw [pow_two_128] at h4
    rw [Nat.div_lt_iff_lt_mul (by decide)]; exact h4
theorem ShortInv.stop {x n k m q : Nat} {d : List UInt8} (h : ShortInv x n k m q d) (hm : m < 128) : shortL x = d ++ [lowB m] ∧ q + 1 = n + (shortL x).length := by
  have e : shortL x = d ++ [lowB m] := by rw [h.whole, shortF_small _ _ hm]
  exact ⟨e, by rw [e, h.q_eq]; simp; omega⟩
theorem ShortInv.fits {x n k m q : Nat} {d : List UInt8} (h : ShortInv x n k m q d) : m < 18446744073709551616 := by
  have h1 := h.small
  have h2 := h.left
  have h3 : 128 ^ k ≤ 128 ^ 9 := Nat.pow_le_pow_right (by decide) (by omega)
  rw [show (128 : Nat) ^ 9 = 9223372036854775808 from rfl] at h3
  omega
theorem ShortInv.room {x n k m q : Nat} {d : List UInt8} (h : ShortInv x n k m q d) : q ≤ n + 9 := by
  have h1 := h.q_eq
  have h3 := h.left
  omega

set_option maxRecDepth 100000 in
theorem putShort_any (A : Option Addr) (n c : Nat) (l : List UInt8) (B : Nat) (x : Nat) (w : World) (hA : Bs w B A n l) (hB : B ≤ w.heap.size) (hn : n ≤ 70368744177664) (hx : x < 18446744073709551616) :
    Calls Tryd.prog 38 #[.slice A n c, .int .u64 (x : Int)] w fun e w' => e = .returned (.slice (some ⟨w.heap.size, 0, none⟩) (n + (shortL x).length) (n + 10)) ∧
      OwnB w' w.heap.size (.slice (some ⟨w.heap.size, 0, none⟩) (n + (shortL x).length) (n + 10)) (n + (shortL x).length) (l ++ shortL x) ∧ Below w.heap.size w w' ∧ w.heap.size < w'.heap.size := by
  have H0 := ShortInv.start x n hx
  clear hx
  go_enter Tryd.func38, Tryd.ntmps38
  go_wp2_with fail
  refine (copied_any A n c 10 l B _ hA hB (by omega) (by omega)).mono ?_
  rintro e w1 ⟨rfl, hown, hb, hlt⟩
  obtain ⟨g, hg⟩ : ∃ g, g = w.heap.size := ⟨_, rfl⟩
  rw [← hg] at hown hb hlt ⊢
  have HG := hide hg
  clear hg
  go_wp2
  go_loopw [1, 5] (fun i v wr => ∃ k m : Nat, ∃ d : List UInt8, ∃ q : Nat, i = .int .u64 m ∧ v = .slice (some ⟨g, 0, none⟩) q (n + 10) ∧ ShortInv x n k m q d ∧
      OwnB wr g (.slice (some ⟨g, 0, none⟩) q (n + 10)) q (l ++ d) ∧ Below g w wr ∧ g < wr.heap.size) (fun i _ _ => (intOf i).toNat)
  case atStart => exact ⟨9, x, [], n, rfl, rfl, H0, by simpa using hown, hb, hlt⟩
  case round =>
    obtain ⟨k, m, d, q, rfl, rfl, hinv, hown, hb, hlt⟩ := hrel
    have hq := hinv.room
    by_cases h1 : m < 128
    · go_wp2_with (at_builtin; refine wp_byte_fits _ rfl (.tmp 18) (.tmp 21) rfl g g q (n + 10) _ rfl (hown.alloc _) wr.heap.size (lowB m) rfl ?c1 ?c2 g w (hb.alloc (by omega) _) ?c4 (Nat.le_refl _) ?_)
      case c1 => exact cell_lit1 _ _ (by rw [byteV, lowB_toNat, Nat.mod_eq_of_lt (by omega)])
      case c2 => omega
      case c4 => simp; omega
      intro w2 hown2 hb2 hsz
      have hlt2 : g < w2.heap.size := by omega
      clear hown hb hlt
      obtain ⟨e1, e2⟩ := hinv.stop h1
      have E1 := hide e1
      have E2 := hide e2
      clear e1 e2
      go_wp2
      go_ret
      subst HG
      rw [E1.out] at E2 ⊢
      have e3 := E2.out
      rw [← e3]
      exact ⟨rfl, by simpa [E1.out] using hown2, hb2, hlt2⟩
    · go_wp2_with (at_builtin; refine wp_byte_fits _ rfl (.tmp 10) (.tmp 14) rfl g g q (n + 10) _ rfl (hown.alloc _) wr.heap.size (lowB (m % 128 + 128)) rfl ?d1 ?d2 g w (hb.alloc (by omega) _) ?d4 (Nat.le_refl _) ?_)
      case d1 => exact cell_lit1 _ _ (by rw [byteV, ← or128, IntKind.wrap_u8'])
      case d2 => omega
      case d4 => simp; omega
      intro w2 hown2 hb2 hsz
      have hlt2 : g < w2.heap.size := by omega
      clear hown hb hlt
      obtain ⟨k2, _, hinv2⟩ := hinv.step h1
      go_wp2
      go_roundw
      case rel => exact ⟨k2, m / 128, _, q + 1, by go_num, rfl, hinv2, by simpa using hown2, hb2, hlt2⟩
      case measure => simp [intOf]; omega
end Go.Proofs.YtcnnpbeadldflaaDoor
