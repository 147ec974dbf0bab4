import Derived.Deep.DeepMust
import Derived.Test.YtjmkecaljkcoiaaDoorQBytes1
import Derived.Test.YtjmkecaljkcoiaaDoorQForm1
namespace Go.Proofs.YtjmkecaljkcoiaaDoor
open Go.RowKit
set_option linter.unusedVariables false
theorem put_any (A : Option Addr) (n c : Nat) (l : List UInt8) (B : Nat) (x W : Nat) (w : World) (hA : Bs w B A n l) (hB : B ≤ w.heap.size) (hn : n ≤ 70368744177664) (_hx : x < 18446744073709551616) (hW : widthB (W : Int) = true) :
    Calls Tryd.prog 105 #[.slice A n c, .int .u64 (x : Int), .int .i64 (W : Int)] w fun e w' => e = .returned (.slice (some ⟨w.heap.size, 0, none⟩) (n + W) (n + W)) ∧
      OwnB w' w.heap.size (.slice (some ⟨w.heap.size, 0, none⟩) (n + W) (n + W)) (n + W) (l ++ formL x W) ∧ Below w.heap.size w w' ∧ w.heap.size < w'.heap.size := by
  have hW8 : W ≤ 8 := by have := widthB_cases hW; omega
  have hW1 : 1 ≤ W := by have := widthB_cases hW; omega
  go_enter Tryd.func105, Tryd.ntmps105
  go_wp2_with fail
  refine (width_any _ _).mono ?_
  rintro e w' ⟨rfl, rfl⟩
  rw [hW]
  go_wp2_with fail
  refine (copied_any A n c W l B _ hA hB (by omega) (by omega)).mono ?_
  rintro e w1 ⟨rfl, hown, hb, hlt⟩
  obtain ⟨g, hg⟩ : ∃ g, g = w.heap.size := ⟨_, rfl⟩
  rw [← hg] at hown hb hlt ⊢
  have HG := hide hg
  clear hg
  go_wp2
  go_loopw [7, 8] (fun v i wr => ∃ j : Nat, ∃ y : Int, j ≤ W ∧ i = .int .i64 y ∧ y = (W : Int) - 1 - (j : Int) ∧ v = .slice (some ⟨g, 0, none⟩) (n + j) (n + W) ∧
      OwnB wr g (.slice (some ⟨g, 0, none⟩) (n + j) (n + W)) (n + j) (l ++ formT x W j) ∧ Below g w wr ∧ g < wr.heap.size) (fun _ i _ => (intOf i + 1).toNat)
  case atStart => exact ⟨0, _, Nat.zero_le _, rfl, by omega, rfl, by simpa [formT_zero] using hown, hb, hlt⟩
  case round =>
    obtain ⟨j, y, hj, rfl, hy, rfl, hown, hb, hlt⟩ := hrel
    by_cases h0 : 0 ≤ y
    · obtain ⟨a, rfl⟩ := Int.eq_ofNat_of_zero_le h0
      have ha8 : a ≤ 7 := by omega
      have haj : a = W - 1 - j := by omega
      have HJ := hide haj
      have HY := hide hy
      clear haj hy
      go_wp2_with (at_builtin; refine wp_byte_fits _ rfl (.tmp 23) (.tmp 29) rfl g g (n + j) (n + W) _ rfl (hown.alloc _) wr.heap.size (lowB (x / 2 ^ (8 * a))) rfl ?c1 ?c2 g w (hb.alloc (by omega) _) ?c4 (Nat.le_refl _) ?_)
      case c1 => exact cell_lit1 _ _ (by rw [byteV, lowB_toNat]; congr 1)
      case c2 => have := HJ.out; have := HY.out; omega
      case c4 => simp; omega
      intro w2 hown2 hb2 hsz
      have hY := HY.out
      have hlt2 : g < w2.heap.size := by omega
      have HY2 := hide hY
      clear hY hown hb hlt
      go_wp2
      go_roundw
      case rel =>
        have hY := HY2.out
        refine ⟨j + 1, _, by omega, rfl, by omega, rfl, ?_, hb2, hlt2⟩
        rw [formT_succ, ← HJ.out]
        exact hown2
      case measure => simp [intOf]
    · obtain rfl : j = W := by omega
      have HY := hide hy
      clear hy
      go_wp2
      go_ret
      subst HG
      exact ⟨rfl, hown, hb, hlt⟩
theorem pow_two_128 (k : Nat) : 2 * 128 ^ (k + 1) = 2 * 128 ^ k * 128 := by rw [Nat.pow_succ, Nat.mul_assoc]
structure ShortInv (x n k m q : Nat) (d : List UInt8) : Prop where
  q_eq : q = n + d.length
  whole : shortL x = d ++ shortF k m
  left : d.length + k = 9
  small : m < 2 * 128 ^ k
theorem ShortInv.start (x n : Nat) (hx : x < 18446744073709551616) : ShortInv x n 9 x n [] := ⟨by simp, rfl, rfl, by omega⟩
theorem ShortInv.step {x n k m q : Nat} {d : List UInt8} (h : ShortInv x n k m q d) (hm : ¬ m < 128) : ∃ k', k = k' + 1 ∧ ShortInv x n k' (m / 128) (q + 1) (d ++ [lowB (m % 128 + 128)]) := by
  obtain ⟨h1, h2, h3, h4⟩ := h
  cases k with
  | zero => omega
  | succ k =>
    refine ⟨k, rfl, by simp; omega, by rw [h2, shortF_big _ _ hm]; simp, by simp; omega, ?_⟩
    rw [pow_two_128] at h4
    rw [Nat.div_lt_iff_lt_mul (by decide)]; exact h4
theorem ShortInv.stop {x n k m q : Nat} {d : List UInt8} (h : ShortInv x n k m q d) (hm : m < 128) : shortL x = d ++ [lowB m] ∧ q + 1 = n + (shortL x).length := by
  have e : shortL x = d ++ [lowB m] := by rw [h.whole, shortF_small _ _ hm]
  exact ⟨e, by rw [e, h.q_eq]; simp; omega⟩
theorem ShortInv.fits {x n k m q : Nat} {d : List UInt8} (h : ShortInv x n k m q d) : m < 18446744073709551616 := by
  have h1 := h.small
  have h2 := h.left
  have h3 : 128 ^ k ≤ 128 ^ 9 := Nat.pow_le_pow_right (by decide) (by omega)
  rw [show (128 : Nat) ^ 9 = 9223372036854775808 from rfl] at h3
  omega
theorem ShortInv.room {x n k m q : Nat} {d : List UInt8} (h : ShortInv x n k m q d) : q ≤ n + 9 := by
  have h1 := h.q_eq
  have h3 := h.left
  omega
set_option maxRecDepth 100000 in
theorem putShort_any (A : Option Addr) (n c : Nat) (l : List UInt8) (B : Nat) (x : Nat) (w : World) (hA : Bs w B A n l) (hB : B ≤ w.heap.size) (hn : n ≤ 70368744177664) (hx : x < 18446744073709551616) :
    Calls Tryd.prog 103 #[.slice A n c, .int .u64 (x : Int)] w fun e w' => e = .returned (.slice (some ⟨w.heap.size, 0, none⟩) (n + (shortL x).length) (n + 10)) ∧
      OwnB w' w.heap.size (.slice (some ⟨w.heap.size, 0, none⟩) (n + (shortL x).length) (n + 10)) (n + (shortL x).length) (l ++ shortL x) ∧ Below w.heap.size w w' ∧ w.heap.size < w'.heap.size := by
  have H0 := ShortInv.start x n hx
  clear hx
  go_enter Tryd.func103, Tryd.ntmps103
  go_wp2_with fail
  refine (copied_any A n c 10 l B _ hA hB (by omega) (by omega)).mono ?_
  rintro e w1 ⟨rfl, hown, hb, hlt⟩
  obtain ⟨g, hg⟩ : ∃ g, g = w.heap.size := ⟨_, rfl⟩
  rw [← hg] at hown hb hlt ⊢
  have HG := hide hg
  clear hg
  go_wp2
  go_loopw [1, 5] (fun i v wr => ∃ k m : Nat, ∃ d : List UInt8, ∃ q : Nat, i = .int .u64 m ∧ v = .slice (some ⟨g, 0, none⟩) q (n + 10) ∧ ShortInv x n k m q d ∧
      OwnB wr g (.slice (some ⟨g, 0, none⟩) q (n + 10)) q (l ++ d) ∧ Below g w wr ∧ g < wr.heap.size) (fun i _ _ => (intOf i).toNat)
  case atStart => exact ⟨9, x, [], n, rfl, rfl, H0, by simpa using hown, hb, hlt⟩
  case round =>
    obtain ⟨k, m, d, q, rfl, rfl, hinv, hown, hb, hlt⟩ := hrel
    have hq := hinv.room
    by_cases h1 : m < 128
    · go_wp2_with (at_builtin; refine wp_byte_fits _ rfl (.tmp 18) (.tmp 21) rfl g g q (n + 10) _ rfl (hown.alloc _) wr.heap.size (lowB m) rfl ?c1 ?c2 g w (hb.alloc (by omega) _) ?c4 (Nat.le_refl _) ?_)
      case c1 => exact cell_lit1 _ _ (by rw [byteV, lowB_toNat, Nat.mod_eq_of_lt (by omega)])
      case c2 => omega
      case c4 => simp; omega
      intro w2 hown2 hb2 hsz
      have hlt2 : g < w2.heap.size := by omega
      clear hown hb hlt
      obtain ⟨e1, e2⟩ := hinv.stop h1
      have E1 := hide e1
      have E2 := hide e2
      clear e1 e2
      go_wp2
      go_ret
      subst HG
      rw [E1.out] at E2 ⊢
      have e3 := E2.out
      rw [← e3]
      exact ⟨rfl, by simpa [E1.out] using hown2, hb2, hlt2⟩
    · go_wp2_with (at_builtin; refine wp_byte_fits _ rfl (.tmp 10) (.tmp 14) rfl g g q (n + 10) _ rfl (hown.alloc _) wr.heap.size (lowB (m % 128 + 128)) rfl ?d1 ?d2 g w (hb.alloc (by omega) _) ?d4 (Nat.le_refl _) ?_)
      case d1 => exact cell_lit1 _ _ (by rw [byteV, ← or128, IntKind.wrap_u8'])
      case d2 => omega
      case d4 => simp; omega
      intro w2 hown2 hb2 hsz
      have hlt2 : g < w2.heap.size := by omega
      clear hown hb hlt
      obtain ⟨k2, _, hinv2⟩ := hinv.step h1
      go_wp2
      go_roundw
      case rel => exact ⟨k2, m / 128, _, q + 1, by go_num, rfl, hinv2, by simpa using hown2, hb2, hlt2⟩
      case measure => simp [intOf]; omega
end Go.Proofs.YtjmkecaljkcoiaaDoor
namespace Go.Proofs.YtjmkecaljkcoiaaDoor
open Go.RowKit
set_option linter.unusedVariables false
def getR : Nat → Nat → List UInt8 → Nat × Nat × Nat
  | _, _, [] => (0, 0, 2)
  | i, acc, c :: t =>
    if i = 9 ∧ 1 < c.toNat then (0, 0, 5)
    else if 128 ≤ c.toNat then getR (i + 1) (acc + c.toNat % 128 * 2 ^ (7 * i)) t
    else if c.toNat = 0 ∧ 0 < i then (0, 0, 5)
    else (acc + c.toNat % 128 * 2 ^ (7 * i), i + 1, 0)
def getF (l : List UInt8) : Nat × Nat × Nat := getR 0 0 l
structure GetInv (l : List UInt8) (j acc : Nat) : Prop where
  whole : getF l = getR j acc (l.drop j)
  upto : j ≤ 9
  small : acc < 2 ^ (7 * j)
theorem GetInv.start (l : List UInt8) : GetInv l 0 0 := ⟨rfl, by omega, by decide⟩
section
variable {l : List UInt8} {j acc y : Nat}
theorem GetInv.end_ (h : GetInv l j acc) (hj : l.length ≤ j) : getF l = (0, 0, 2) := by
  rw [h.whole, List.drop_eq_nil_of_le hj, getR]
theorem GetInv.form (h : GetInv l j acc) (hj : j < l.length) (hy : y = l[j].toNat) (h9 : j = 9) (h1 : 1 < y) : getF l = (0, 0, 5) := by
  rw [h.whole, List.drop_eq_getElem_cons hj, getR, if_pos ⟨h9, by omega⟩]
theorem GetInv.zero (h : GetInv l j acc) (hj : j < l.length) (hy : y = l[j].toNat) (h0 : y = 0) (h1 : 0 < j) : getF l = (0, 0, 5) := by
  rw [h.whole, List.drop_eq_getElem_cons hj, getR, if_neg (by omega), if_neg (by omega), if_pos ⟨by omega, h1⟩]
theorem GetInv.done (h : GetInv l j acc) (hj : j < l.length) (hy : y = l[j].toNat) (h9 : ¬ (j = 9 ∧ 1 < y)) (h1 : y < 128) (h2 : ¬ (y = 0 ∧ 0 < j)) : getF l = (acc + y % 128 * 2 ^ (7 * j), j + 1, 0) := by
  rw [h.whole, List.drop_eq_getElem_cons hj, getR, if_neg (by omega), if_neg (by omega), if_neg (by omega), ← hy]
theorem GetInv.step (h : GetInv l j acc) (hj : j < l.length) (hy : y = l[j].toNat) (h9 : ¬ (j = 9 ∧ 1 < y)) (h1 : 128 ≤ y) : GetInv l (j + 1) (acc + y % 128 * 2 ^ (7 * j)) := by
  have hs := h.small
  refine ⟨by rw [h.whole, List.drop_eq_getElem_cons hj, getR, if_neg (by omega), if_pos (by omega), ← hy], by have := h.upto; omega, ?_⟩
  have e : 2 ^ (7 * (j + 1)) = 128 * 2 ^ (7 * j) := by rw [show (128 : Nat) = 2 ^ 7 from rfl, ← Nat.pow_add]; congr 1; omega
  rw [e]
  have h3 : y % 128 * 2 ^ (7 * j) ≤ 127 * 2 ^ (7 * j) := Nat.mul_le_mul_right _ (by omega)
  omega
theorem GetInv.fits (h : GetInv l j acc) (hy : y < 256) (h9 : ¬ (j = 9 ∧ 1 < y)) : y % 128 * 2 ^ (7 * j) < 18446744073709551616 ∧ acc + y % 128 * 2 ^ (7 * j) < 18446744073709551616 ∧ acc < 18446744073709551616 ∧ 2 ^ (7 * j) < 18446744073709551616 := by
  have hs := h.small
  have hu := h.upto
  by_cases hj9 : j = 9
  · subst hj9
    have : y % 128 ≤ 1 := by omega
    simp only [show 7 * 9 = 63 from rfl] at *
    omega
  · have h2 : 2 ^ (7 * j) ≤ 2 ^ 56 := Nat.pow_le_pow_right (by decide) (by omega)
    have h3 : y % 128 * 2 ^ (7 * j) ≤ 127 * 2 ^ 56 := Nat.mul_le_mul (by omega) h2
    simp only [show (2 : Nat) ^ 56 = 72057594037927936 from rfl] at *
    omega
end
theorem shortL_len (n : Nat) : 1 ≤ (shortL n).length ∧ (shortL n).length ≤ 10 := shortF_len 9 n
set_option maxRecDepth 100000 in
theorem rshort_any (x : Nat) (w : World) (hx : x < 18446744073709551616) :
    Calls Tryd.prog 79 #[.int .u64 (x : Int)] w fun e w' => ∃ A c, e = .returned (.slice A (shortL x).length c) ∧ OwnB w' w.heap.size (.slice A (shortL x).length c) (shortL x).length (shortL x) ∧ Below w.heap.size w w' := by
  have H0 := ShortInv.start x 0 hx
  clear hx
  go_enter Tryd.func79, Tryd.ntmps79
  go_wp2
  go_loopw [0, 3] (fun i v wr => ∃ k m : Nat, ∃ d : List UInt8, ∃ q : Nat, ∃ A c, i = .int .u64 m ∧ v = .slice A q c ∧ ShortInv x 0 k m q d ∧
      OwnB wr w.heap.size (.slice A q c) q d ∧ Below w.heap.size w wr) (fun i _ _ => (intOf i).toNat)
  case atStart => exact ⟨9, x, [], 0, none, 0, rfl, rfl, H0, OwnB.nil_ _ _, Below.refl _ _⟩
  case round =>
    obtain ⟨k, m, d, q, A, c, rfl, rfl, hinv, hown, hb⟩ := hrel
    have hq := hinv.room
    have hsz := hb.size
    have hm64 := hinv.fits
    by_cases h1 : m < 128
    · go_wp2_with (at_builtin; refine wp_byte_own _ rfl (.tmp 15) (.tmp 18) rfl w.heap.size q _ _ rfl (hown.alloc _) wr.heap.size (lowB m) rfl ?c1 (by omega) w.heap.size w (hb.alloc (by omega) _) (Nat.le_refl _) ?c4 ?_)
      case c1 => exact cell_lit1 _ _ (by rw [byteV, lowB_toNat, Nat.mod_eq_of_lt (by omega)])
      case c4 => simp; omega
      intro g2 c2 w2 hown2 hb2 hsz2
      clear hown hb
      obtain ⟨e1, e2⟩ := hinv.stop h1
      have E1 := hide e1
      have E2 := hide e2
      clear e1 e2
      go_wp2
      go_ret
      have e3 := E2.out
      rw [Nat.zero_add] at e3
      rw [← e3, E1.out]
      exact ⟨_, _, rfl, hown2, hb2⟩
    · go_wp2_with (at_builtin; refine wp_byte_own _ rfl (.tmp 6) (.tmp 11) rfl w.heap.size q _ _ rfl (hown.alloc _) wr.heap.size (lowB (m % 128 + 128)) rfl ?d1 (by omega) w.heap.size w (hb.alloc (by omega) _) (Nat.le_refl _) ?d4 ?_)
      case d1 =>
        exact cell_lit1 _ _ (by rw [byteV, lowB_toNat, Nat.mod_eq_of_lt (by omega)]; congr 1)
      case d4 => simp; omega
      intro g2 c2 w2 hown2 hb2 hsz2
      clear hown hb
      obtain ⟨k2, _, hinv2⟩ := hinv.step h1
      go_wp2
      go_roundw
      case rel => exact ⟨k2, m / 128, _, q + 1, _, _, by go_num, rfl, hinv2, hown2, hb2⟩
      case measure => simp [intOf]; omega
end Go.Proofs.YtjmkecaljkcoiaaDoor
namespace Go.Proofs.YtjmkecaljkcoiaaDoor
open Go.RowKit
set_option linter.unusedVariables false
def narrowF (n W : Nat) : Nat := n % 2 ^ (8 * W)
end Go.Proofs.YtjmkecaljkcoiaaDoor
