/-
  Contracts of the number functions of layer 1.
-/
import Derived.Test.YtjmkecaljkcoiaaDoorRows
import Derived.Outline
import Derived.Test.YtjmkecaljkcoiaaDoorQOpenF
import Derived.Test.YtjmkecaljkcoiaaDoorQMath1
import Derived.Laws.BitsAllLaws
import Derived.Laws.Bits128
import Derived.Deep.DeepMust
import Derived.Test.YtjmkecaljkcoiaaDoorQBytes1
namespace Go.Proofs.YtjmkecaljkcoiaaDoor
open Go.RowKit
set_option linter.unusedVariables false

theorem width_any (n : Int) (w : World)  :
    Calls Tryd.prog 129 #[.int .i64 n] w fun e w' => e = .returned (.bool (widthB n)) ∧ w = w' := by
  go_enter Tryd.func129, Tryd.ntmps129
  go_wp2
  all_goals go_ret
  all_goals exact ⟨ret_bool (by simp_all [widthB]), rfl⟩
end Go.Proofs.YtjmkecaljkcoiaaDoor
namespace Go.Proofs.YtjmkecaljkcoiaaDoor
open Go.RowKit

/-- The low byte of a number. -/
def lowB (n : Nat) : UInt8 := UInt8.ofNat n
theorem lowB_toNat (n : Nat) : (lowB n).toNat = n % 256 := by simp [lowB]
theorem wrap_u8_low (n : Nat) : IntKind.u8.wrap (n : Int) = ((lowB n).toNat : Int) := by
  rw [IntKind.wrap_u8', lowB_toNat]; omega
theorem cell_low (n : Nat) : Value.int .u8 (IntKind.u8.wrap (n : Int)) = byteV (lowB n) := by rw [wrap_u8_low]; rfl

/-- The first j bytes of the form of n of a width. -/
def formT (n w j : Nat) : List UInt8 := (List.range j).map fun i => lowB (n / 2 ^ (8 * (w - 1 - i)))
def formL (n w : Nat) : List UInt8 := formT n w w
theorem formT_zero (n w : Nat) : formT n w 0 = [] := rfl
theorem formT_succ (n w j : Nat) : formT n w (j + 1) = formT n w j ++ [lowB (n / 2 ^ (8 * (w - 1 - j)))] := by
  simp [formT, List.range_succ]
theorem formT_len (n w j : Nat) : (formT n w j).length = j := by simp [formT]
theorem formL_len (n w : Nat) : (formL n w).length = w := formT_len n w w

/-- The number of a list of bytes, the highest first. -/
def numL (l : List UInt8) : Nat := l.foldl (fun a x => a * 256 + x.toNat) 0
theorem numL_nil : numL [] = 0 := rfl
theorem numL_snoc (l : List UInt8) (x : UInt8) : numL (l ++ [x]) = numL l * 256 + x.toNat := by simp [numL]
theorem numL_formT (n w j : Nat) (hj : j ≤ w) : numL (formT n w j) = n / 2 ^ (8 * (w - j)) % 2 ^ (8 * j) := by
  induction j with
  | zero => simp [formT_zero, numL_nil, Nat.mod_one]
  | succ j ih =>
    rw [formT_succ, numL_snoc, ih (by omega), lowB_toNat]
    have e1 : w - (j + 1) = w - 1 - j := by omega
    rw [e1]
    have e2 : 2 ^ (8 * (w - j)) = 2 ^ (8 * (w - 1 - j)) * 256 := by
      rw [show (256 : Nat) = 2 ^ 8 from rfl, ← Nat.pow_add]; congr 1; omega
    rw [e2, ← Nat.div_div_eq_div_mul]
    generalize n / 2 ^ (8 * (w - 1 - j)) = m
    have e3 : 2 ^ (8 * (j + 1)) = 256 * 2 ^ (8 * j) := by
      rw [show (256 : Nat) = 2 ^ 8 from rfl, ← Nat.pow_add]; congr 1; omega
    rw [e3, Nat.mod_mul]
    omega
theorem numL_form (n w : Nat) : numL (formL n w) = n % 2 ^ (8 * w) := by
  unfold formL
  rw [numL_formT n w w (Nat.le_refl _)]; simp
theorem numL_lt (l : List UInt8) : numL l < 2 ^ (8 * l.length) := by
  rcases List.eq_nil_or_concat l with rfl | ⟨m, x, rfl⟩
  · simp [numL_nil]
  · have hx := x.toNat_lt
    have : ∀ k (l : List UInt8), l.length = k → numL l < 2 ^ (8 * k) := by
      intro k
      induction k with
      | zero => intro l hl; rw [List.eq_nil_of_length_eq_zero hl]; simp [numL_nil]
      | succ k ih =>
        intro l hl
        rcases List.eq_nil_or_concat l with rfl | ⟨m, x, rfl⟩
        · simp at hl
        · have h1 := ih m (by simpa using hl)
          have hx := x.toNat_lt
          rw [List.concat_eq_append, numL_snoc]
          have e3 : 2 ^ (8 * (k + 1)) = 256 * 2 ^ (8 * k) := by
            rw [show (256 : Nat) = 2 ^ 8 from rfl, ← Nat.pow_add]; congr 1; omega
          rw [e3]; omega
    exact this _ _ rfl

theorem numL_inj : ∀ (k : Nat) (l m : List UInt8), l.length = k → m.length = k → numL l = numL m → l = m
  | 0, l, m, hl, hm, _ => by rw [List.eq_nil_of_length_eq_zero hl, List.eq_nil_of_length_eq_zero hm]
  | k + 1, l, m, hl, hm, h => by
    rcases List.eq_nil_or_concat l with rfl | ⟨l', x, rfl⟩
    · simp at hl
    · rcases List.eq_nil_or_concat m with rfl | ⟨m', y, rfl⟩
      · simp at hm
      · simp only [List.concat_eq_append, numL_snoc, List.length_append, List.length_cons, List.length_nil] at h hl hm ⊢
        have hx := x.toNat_lt
        have hy := y.toNat_lt
        rw [numL_inj k l' m' (by omega) (by omega) (by omega), UInt8.toNat_inj.1 (show x.toNat = y.toNat by omega)]

/-- The short form. -/
def shortF : Nat → Nat → List UInt8
  | 0, n => [lowB n]
  | k + 1, n => if n < 128 then [lowB n] else lowB (n % 128 + 128) :: shortF k (n / 128)
def shortL (n : Nat) : List UInt8 := shortF 9 n
theorem shortF_small (k n : Nat) (h : n < 128) : shortF k n = [lowB n] := by cases k <;> simp [shortF, h]
theorem shortF_big (k n : Nat) (h : ¬ n < 128) : shortF (k + 1) n = lowB (n % 128 + 128) :: shortF k (n / 128) := by simp [shortF, h]
theorem shortF_more (k n : Nat) (h : n < 128 ^ (k + 1)) : shortF (k + 1) n = shortF k n := by
  induction k generalizing n with
  | zero => rw [shortF_small _ _ (by simpa using h), shortF_small _ _ (by simpa using h)]
  | succ k ih =>
    by_cases hn : n < 128
    · rw [shortF_small _ _ hn, shortF_small _ _ hn]
    · rw [shortF_big _ _ hn, shortF_big _ _ hn, ih]
      rw [Nat.div_lt_iff_lt_mul (by decide), ← Nat.pow_succ]; exact h
theorem shortF_len (k n : Nat) : 1 ≤ (shortF k n).length ∧ (shortF k n).length ≤ k + 1 := by
  induction k generalizing n with
  | zero => simp [shortF]
  | succ k ih =>
    by_cases hn : n < 128
    · rw [shortF_small _ _ hn]; simp
    · rw [shortF_big _ _ hn]; have := ih (n / 128); simp; omega
theorem or128 (n : Nat) : bits .or .u8 (IntKind.u8.wrap (n : Int)) 128 = ((lowB (n % 128 + 128)).toNat : Int) := by
  rw [wrap_u8_low, lowB_toNat, lowB_toNat]
  have h1 : ((n % 256 : Nat) : Int) = ((n % 256 : Nat) : Int) := rfl
  rw [show (128 : Int) = ((128 : Nat) : Int) from rfl, u8_or_nat _ _ (by omega) (by omega)]
  have e : (n % 256) ||| 128 = n % 128 + 128 := by
    have h : n % 256 = n % 128 + (n % 256 / 128) * 128 := by omega
    have h2 : n % 256 / 128 = 0 ∨ n % 256 / 128 = 1 := by omega
    have j1 : (128 : Nat) ||| (n % 128) = 128 + n % 128 := nat_join 7 128 (n % 128) (by decide) (by have := Nat.mod_lt n (show 0 < 128 by decide); omega)
    rcases h2 with h2 | h2
    · rw [h, h2, Nat.zero_mul, Nat.add_zero, Nat.or_comm, j1]; omega
    · rw [h, h2, Nat.one_mul]
      have j2 : n % 128 + 128 = (128 : Nat) ||| (n % 128) := by rw [j1]; omega
      rw [j2, Nat.or_comm, ← Nat.or_assoc, Nat.or_self]
  rw [e]; omega
end Go.Proofs.YtjmkecaljkcoiaaDoor
namespace Go.Proofs.YtjmkecaljkcoiaaDoor
open Go.RowKit
set_option linter.unusedVariables false

theorem put_any (A : Option Addr) (n c : Nat) (l : List UInt8) (B : Nat) (x W : Nat) (w : World) (hA : Bs w B A n l) (hB : B ≤ w.heap.size) (hn : n ≤ 70368744177664) (_hx : x < 18446744073709551616) (hW : widthB (W : Int) = true) :
    Calls Tryd.prog 105 #[.slice A n c, .int .u64 (x : Int), .int .i64 (W : Int)] w fun e w' => e = .returned (.slice (some ⟨w.heap.size, 0, none⟩) (n + W) (n + W)) ∧
      OwnB w' w.heap.size (.slice (some ⟨w.heap.size, 0, none⟩) (n + W) (n + W)) (n + W) (l ++ formL x W) ∧ Below w.heap.size w w' ∧ w.heap.size < w'.heap.size := by
  have hW8 : W ≤ 8 := by have := widthB_cases hW; omega
  have hW1 : 1 ≤ W := by have := widthB_cases hW; omega
  go_enter Tryd.func105, Tryd.ntmps105
  go_wp2_with fail
  refine (width_any _ _).mono ?_
  rintro e w' ⟨rfl, rfl⟩
  rw [hW]
  go_wp2_with fail
  refine (copied_any A n c W l B _ hA hB (by omega) (by omega)).mono ?_
  rintro e w1 ⟨rfl, hown, hb, hlt⟩
  obtain ⟨g, hg⟩ : ∃ g, g = w.heap.size := ⟨_, rfl⟩
  rw [← hg] at hown hb hlt ⊢
  have HG := hide hg
  clear hg
  go_wp2
  go_loopw [7, 8] (fun v i wr => ∃ j : Nat, ∃ y : Int, j ≤ W ∧ i = .int .i64 y ∧ y = (W : Int) - 1 - (j : Int) ∧ v = .slice (some ⟨g, 0, none⟩) (n + j) (n + W) ∧
      OwnB wr g (.slice (some ⟨g, 0, none⟩) (n + j) (n + W)) (n + j) (l ++ formT x W j) ∧ Below g w wr ∧ g < wr.heap.size) (fun _ i _ => (intOf i + 1).toNat)
  case atStart => exact ⟨0, _, Nat.zero_le _, rfl, by omega, rfl, by simpa [formT_zero] using hown, hb, hlt⟩
  case round =>
    obtain ⟨j, y, hj, rfl, hy, rfl, hown, hb, hlt⟩ := hrel
    by_cases h0 : 0 ≤ y
    · obtain ⟨a, rfl⟩ := Int.eq_ofNat_of_zero_le h0
      have ha8 : a ≤ 7 := by omega
      have haj : a = W - 1 - j := by omega
      have HJ := hide haj
      have HY := hide hy
      clear haj hy
      go_wp2_with (at_builtin; refine wp_byte_fits _ rfl (.tmp 23) (.tmp 29) rfl g g (n + j) (n + W) _ rfl (hown.alloc _) wr.heap.size (lowB (x / 2 ^ (8 * a))) rfl ?c1 ?c2 g w (hb.alloc (by omega) _) ?c4 (Nat.le_refl _) ?_)
      case c1 => exact cell_lit1 _ _ (by rw [byteV, lowB_toNat]; congr 1)
      case c2 => have := HJ.out; have := HY.out; omega
      case c4 => simp; omega
      intro w2 hown2 hb2 hsz
      have hY := HY.out
      have hlt2 : g < w2.heap.size := by omega
      have HY2 := hide hY
      clear hY hown hb hlt
      go_wp2
      go_roundw
      case rel =>
        have hY := HY2.out
        refine ⟨j + 1, _, by omega, rfl, by omega, rfl, ?_, hb2, hlt2⟩
        rw [formT_succ, ← HJ.out]
        exact hown2
      case measure => simp [intOf]
    · obtain rfl : j = W := by omega
      have HY := hide hy
      clear hy
      go_wp2
      go_ret
      subst HG
      exact ⟨rfl, hown, hb, hlt⟩

theorem put_none (A : Option Addr) (n c : Nat) (l : List UInt8) (B : Nat) (x W : Int) (w : World) (hA : Bs w B A n l) (hB : B ≤ w.heap.size) (hn : n ≤ 70368744177664) (hW : widthB W = false) :
    Calls Tryd.prog 105 #[.slice A n c, .int .u64 x, .int .i64 W] w fun e w' => e = .returned (.slice (some ⟨w.heap.size, 0, none⟩) n (n + 0)) ∧
      OwnB w' w.heap.size (.slice (some ⟨w.heap.size, 0, none⟩) n (n + 0)) n l ∧ Below w.heap.size w w' ∧ w.heap.size < w'.heap.size := by
  go_enter Tryd.func105, Tryd.ntmps105
  go_wp2_with fail
  refine (width_any _ _).mono ?_
  rintro e w' ⟨rfl, rfl⟩
  rw [hW]
  go_wp2_with fail
  refine (copied_any A n c 0 l B _ hA hB (by omega) (by omega)).mono ?_
  rintro e w1 ⟨rfl, hown, hb, hlt⟩
  go_wp2
  go_ret
  exact ⟨rfl, hown, hb, hlt⟩

theorem pow_two_128 (k : Nat) : 2 * 128 ^ (k + 1) = 2 * 128 ^ k * 128 := by rw [Nat.pow_succ, Nat.mul_assoc]

/-- What holds of the numbers at the head of PutShort's round. -/
structure ShortInv (x n k m q : Nat) (d : List UInt8) : Prop where
  q_eq : q = n + d.length
  whole : shortL x = d ++ shortF k m
  left : d.length + k = 9
  small : m < 2 * 128 ^ k
theorem ShortInv.start (x n : Nat) (hx : x < 18446744073709551616) : ShortInv x n 9 x n [] := ⟨by simp, rfl, rfl, by omega⟩
theorem ShortInv.step {x n k m q : Nat} {d : List UInt8} (h : ShortInv x n k m q d) (hm : ¬ m < 128) : ∃ k', k = k' + 1 ∧ ShortInv x n k' (m / 128) (q + 1) (d ++ [lowB (m % 128 + 128)]) := by
  obtain ⟨h1, h2, h3, h4⟩ := h
  cases k with
  | zero => omega
  | succ k =>
    refine ⟨k, rfl, by simp; omega, by rw [h2, shortF_big _ _ hm]; simp, by simp; omega, ?_⟩
    rw [pow_two_128] at h4
    rw [Nat.div_lt_iff_lt_mul (by decide)]; exact h4
theorem ShortInv.stop {x n k m q : Nat} {d : List UInt8} (h : ShortInv x n k m q d) (hm : m < 128) : shortL x = d ++ [lowB m] ∧ q + 1 = n + (shortL x).length := by
  have e : shortL x = d ++ [lowB m] := by rw [h.whole, shortF_small _ _ hm]
  exact ⟨e, by rw [e, h.q_eq]; simp; omega⟩
theorem ShortInv.fits {x n k m q : Nat} {d : List UInt8} (h : ShortInv x n k m q d) : m < 18446744073709551616 := by
  have h1 := h.small
  have h2 := h.left
  have h3 : 128 ^ k ≤ 128 ^ 9 := Nat.pow_le_pow_right (by decide) (by omega)
  rw [show (128 : Nat) ^ 9 = 9223372036854775808 from rfl] at h3
  omega
theorem ShortInv.room {x n k m q : Nat} {d : List UInt8} (h : ShortInv x n k m q d) : q ≤ n + 9 := by
  have h1 := h.q_eq
  have h3 := h.left
  omega

set_option maxRecDepth 100000 in
theorem putShort_any (A : Option Addr) (n c : Nat) (l : List UInt8) (B : Nat) (x : Nat) (w : World) (hA : Bs w B A n l) (hB : B ≤ w.heap.size) (hn : n ≤ 70368744177664) (hx : x < 18446744073709551616) :
    Calls Tryd.prog 103 #[.slice A n c, .int .u64 (x : Int)] w fun e w' => e = .returned (.slice (some ⟨w.heap.size, 0, none⟩) (n + (shortL x).length) (n + 10)) ∧
      OwnB w' w.heap.size (.slice (some ⟨w.heap.size, 0, none⟩) (n + (shortL x).length) (n + 10)) (n + (shortL x).length) (l ++ shortL x) ∧ Below w.heap.size w w' ∧ w.heap.size < w'.heap.size := by
  have H0 := ShortInv.start x n hx
  clear hx
  go_enter Tryd.func103, Tryd.ntmps103
  go_wp2_with fail
  refine (copied_any A n c 10 l B _ hA hB (by omega) (by omega)).mono ?_
  rintro e w1 ⟨rfl, hown, hb, hlt⟩
  obtain ⟨g, hg⟩ : ∃ g, g = w.heap.size := ⟨_, rfl⟩
  rw [← hg] at hown hb hlt ⊢
  have HG := hide hg
  clear hg
  go_wp2
  go_loopw [1, 5] (fun i v wr => ∃ k m : Nat, ∃ d : List UInt8, ∃ q : Nat, i = .int .u64 m ∧ v = .slice (some ⟨g, 0, none⟩) q (n + 10) ∧ ShortInv x n k m q d ∧
      OwnB wr g (.slice (some ⟨g, 0, none⟩) q (n + 10)) q (l ++ d) ∧ Below g w wr ∧ g < wr.heap.size) (fun i _ _ => (intOf i).toNat)
  case atStart => exact ⟨9, x, [], n, rfl, rfl, H0, by simpa using hown, hb, hlt⟩
  case round =>
    obtain ⟨k, m, d, q, rfl, rfl, hinv, hown, hb, hlt⟩ := hrel
    have hq := hinv.room
    by_cases h1 : m < 128
    · go_wp2_with (at_builtin; refine wp_byte_fits _ rfl (.tmp 18) (.tmp 21) rfl g g q (n + 10) _ rfl (hown.alloc _) wr.heap.size (lowB m) rfl ?c1 ?c2 g w (hb.alloc (by omega) _) ?c4 (Nat.le_refl _) ?_)
      case c1 => exact cell_lit1 _ _ (by rw [byteV, lowB_toNat, Nat.mod_eq_of_lt (by omega)])
      case c2 => omega
      case c4 => simp; omega
      intro w2 hown2 hb2 hsz
      have hlt2 : g < w2.heap.size := by omega
      clear hown hb hlt
      obtain ⟨e1, e2⟩ := hinv.stop h1
      have E1 := hide e1
      have E2 := hide e2
      clear e1 e2
      go_wp2
      go_ret
      subst HG
      rw [E1.out] at E2 ⊢
      have e3 := E2.out
      rw [← e3]
      exact ⟨rfl, by simpa [E1.out] using hown2, hb2, hlt2⟩
    · go_wp2_with (at_builtin; refine wp_byte_fits _ rfl (.tmp 10) (.tmp 14) rfl g g q (n + 10) _ rfl (hown.alloc _) wr.heap.size (lowB (m % 128 + 128)) rfl ?d1 ?d2 g w (hb.alloc (by omega) _) ?d4 (Nat.le_refl _) ?_)
      case d1 => exact cell_lit1 _ _ (by rw [byteV, ← or128, IntKind.wrap_u8'])
      case d2 => omega
      case d4 => simp; omega
      intro w2 hown2 hb2 hsz
      have hlt2 : g < w2.heap.size := by omega
      clear hown hb hlt
      obtain ⟨k2, _, hinv2⟩ := hinv.step h1
      go_wp2
      go_roundw
      case rel => exact ⟨k2, m / 128, _, q + 1, by go_num, rfl, hinv2, by simpa using hown2, hb2, hlt2⟩
      case measure => simp [intOf]; omega
end Go.Proofs.YtjmkecaljkcoiaaDoor
