import Derived.WalkKit
import Derived.Laws.BitsAllLaws
namespace Go.Proofs.YtjmkecaljkcoiaaGreatDoor
open Go.RowKit
set_option linter.unusedVariables false
theorem two64 : (18446744073709551616 : Nat) = 2 ^ 64 := by decide
def bitM (a b i : Nat) : Bool := if i < 64 then a.testBit i else b.testBit (i - 64)
def cnt (p : Nat → Bool) : Nat → Nat
  | 0 => 0
  | n + 1 => cnt p n + (p n).toNat
theorem cnt_yes {p : Nat → Bool} {n : Nat} (h : p n = true) : cnt p (n + 1) = cnt p n + 1 := by simp [cnt, h]
theorem cnt_no {p : Nat → Bool} {n : Nat} (h : p n = false) : cnt p (n + 1) = cnt p n := by simp [cnt, h]
theorem cnt_add (p : Nat → Bool) (m n : Nat) : cnt p (m + n) = cnt p m + cnt (fun i => p (m + i)) n := by
  induction n with
  | zero => simp [cnt]
  | succ n ih => rw [← Nat.add_assoc, cnt, ih, cnt]; omega
theorem cnt_congr {p q : Nat → Bool} {n : Nat} (h : ∀ i, i < n → p i = q i) : cnt p n = cnt q n := by
  induction n with
  | zero => rfl
  | succ n ih => rw [cnt, cnt, ih (fun i hi => h i (by omega)), h n (by omega)]
theorem cnt_le (p : Nat → Bool) (n : Nat) : cnt p n ≤ n := by
  induction n with
  | zero => simp [cnt]
  | succ n ih => rw [cnt]; have := Bool.toNat_le (p n); omega
theorem cnt_none {p : Nat → Bool} {n : Nat} (h : ∀ i, i < n → p i = false) : cnt p n = 0 := by
  induction n with
  | zero => rfl
  | succ n ih => rw [cnt, ih (fun i hi => h i (by omega)), h n (by omega)]; rfl
def popW (x : Nat) : Nat := cnt x.testBit 64
def popM (a b : Nat) : Nat := cnt (bitM a b) 128
theorem popM_eq (a b : Nat) : popM a b = popW a + popW b := by
  unfold popM popW
  rw [show 128 = 64 + 64 from rfl, cnt_add]
  rw [show cnt (bitM a b) 64 = cnt a.testBit 64 from cnt_congr fun i hi => by simp [bitM, hi], show cnt (fun i => bitM a b (64 + i)) 64 = cnt b.testBit 64 from cnt_congr fun i hi => by simp only [bitM, if_neg (show ¬ 64 + i < 64 by omega), Nat.add_sub_cancel_left]]
theorem popW_le (x : Nat) : popW x ≤ 64 := cnt_le _ _
theorem popM_le (a b : Nat) : popM a b ≤ 128 := cnt_le _ _
structure PopInv (x n0 j n y : Nat) : Prop where
  rest : y = x / 2 ^ j
  got : n = n0 + cnt x.testBit j
  upto : j ≤ 64
theorem PopInv.start (x n0 : Nat) : PopInv x n0 0 n0 x := ⟨by simp, by simp [cnt], by omega⟩
theorem PopInv.step {x n0 j n y : Nat} (h : PopInv x n0 j n y) (hx : x < 18446744073709551616) (hy : y ≠ 0) : PopInv x n0 (j + 1) (n + y % 2) (y / 2) := by
  obtain ⟨h1, h2, h3⟩ := h
  have hb : (x.testBit j).toNat = y % 2 := by
    rw [Nat.testBit_eq_decide_div_mod_eq, h1]
    have := Nat.mod_two_eq_zero_or_one (x / 2 ^ j)
    rcases this with h | h <;> simp [h]
  refine ⟨by rw [h1, Nat.div_div_eq_div_mul, ← Nat.pow_succ], by rw [h2, cnt, hb]; omega, ?_⟩
  rcases Nat.lt_or_ge j 64 with h | h
  · omega
  · exfalso
    apply hy
    rw [h1]
    apply Nat.div_eq_of_lt
    exact Nat.lt_of_lt_of_le hx (Nat.le_trans (by decide) (Nat.pow_le_pow_right (n := 2) (by decide) h))
theorem PopInv.stop {x n0 j n : Nat} (h : PopInv x n0 j n 0) : n = n0 + popW x := by
  obtain ⟨h1, h2, h3⟩ := h
  rw [h2, popW]
  obtain ⟨k, hk⟩ : ∃ k, 64 = j + k := ⟨64 - j, by omega⟩
  rw [hk, cnt_add, cnt_none (p := fun i => x.testBit (j + i)) (n := k)]
  · omega
  · intro i _
    rw [show j + i = i + j from Nat.add_comm _ _, ← Nat.testBit_div_two_pow, ← h1, Nat.zero_testBit]
theorem PopInv.small {x n0 j n y : Nat} (h : PopInv x n0 j n y) : n ≤ n0 + 64 := by
  rw [h.got]
  have := cnt_le x.testBit j
  have := h.upto
  omega
theorem PopInv.fits {x n0 j n y : Nat} (h : PopInv x n0 j n y) (hx : x < 18446744073709551616) : y < 18446744073709551616 := by
  rw [h.rest]
  exact Nat.lt_of_le_of_lt (Nat.div_le_self _ _) hx
theorem word_ext {a c : Nat} (ha : a < 18446744073709551616) (hc : c < 18446744073709551616) (h : ∀ i, i < 64 → a.testBit i = c.testBit i) : a = c := by
  apply Nat.eq_of_testBit_eq
  intro i
  by_cases hi : i < 64
  · exact h i hi
  · rw [Nat.testBit_lt_two_pow (Nat.lt_of_lt_of_le ha (by rw [two64]; exact Nat.pow_le_pow_right (by decide) (by omega))),
      Nat.testBit_lt_two_pow (Nat.lt_of_lt_of_le hc (by rw [two64]; exact Nat.pow_le_pow_right (by decide) (by omega)))]
theorem mask_ext {a b c d : Nat} (ha : a < 18446744073709551616) (hb : b < 18446744073709551616) (hc : c < 18446744073709551616) (hd : d < 18446744073709551616)
    (h : ∀ i, i < 128 → bitM a b i = bitM c d i) : a = c ∧ b = d := by
  constructor
  · refine word_ext ha hc fun i hi => ?_
    have := h i (by omega)
    simpa [bitM, hi] using this
  · refine word_ext hb hd fun i hi => ?_
    have := h (i + 64) (by omega)
    simpa only [bitM, if_neg (show ¬ i + 64 < 64 by omega), Nat.add_sub_cancel] using this
def wordOf : (Nat → Bool) → Nat → Nat
  | _, 0 => 0
  | p, k + 1 => 2 * wordOf (fun i => p (i + 1)) k + (p 0).toNat
theorem wordOf_lt (p : Nat → Bool) (k : Nat) : wordOf p k < 2 ^ k := by
  induction k generalizing p with
  | zero => simp [wordOf]
  | succ k ih =>
    have := ih (fun i => p (i + 1))
    have := Bool.toNat_le (p 0)
    rw [wordOf, Nat.pow_succ]
    omega
theorem wordOf_bit (p : Nat → Bool) (k i : Nat) (h : i < k) : (wordOf p k).testBit i = p i := by
  induction k generalizing p i with
  | zero => omega
  | succ k ih =>
    cases i with
    | zero =>
      rw [Nat.testBit_zero, wordOf]
      cases hp : p 0 <;> simp
    | succ i =>
      rw [Nat.testBit_succ, show wordOf p (k + 1) / 2 = wordOf (fun i => p (i + 1)) k from by rw [wordOf]; have := Bool.toNat_le (p 0); omega]
      exact ih (fun i => p (i + 1)) i (by omega)
theorem wordOf_congr {p q : Nat → Bool} {k : Nat} (h : ∀ i, i < k → p i = q i) : wordOf p k = wordOf q k := by
  induction k generalizing p q with
  | zero => rfl
  | succ k ih => rw [wordOf, wordOf, ih (p := fun i => p (i + 1)) (q := fun i => q (i + 1)) (fun i hi => h (i + 1) (by omega)), h 0 (by omega)]
def loM (p : Nat → Bool) : Nat := wordOf p 64
def hiM (p : Nat → Bool) : Nat := wordOf (fun i => p (i + 64)) 64
theorem loM_lt (p : Nat → Bool) : loM p < 18446744073709551616 := by rw [two64]; exact wordOf_lt p 64
theorem hiM_lt (p : Nat → Bool) : hiM p < 18446744073709551616 := by rw [two64]; exact wordOf_lt _ 64
theorem bit_of (p : Nat → Bool) (i : Nat) (h : i < 128) : bitM (loM p) (hiM p) i = p i := by
  unfold bitM
  by_cases hi : i < 64
  · rw [if_pos hi]; exact wordOf_bit p 64 i hi
  · rw [if_neg hi, hiM, wordOf_bit _ 64 (i - 64) (by omega)]
    congr 1; omega
theorem mask_of {a b : Nat} {p : Nat → Bool} (ha : a < 18446744073709551616) (hb : b < 18446744073709551616) (h : ∀ i, i < 128 → bitM a b i = p i) : loM p = a ∧ hiM p = b :=
  mask_ext (loM_lt p) (hiM_lt p) ha hb fun i hi => (bit_of p i hi).trans (h i hi).symm
theorem of_congr {p q : Nat → Bool} (h : ∀ i, i < 128 → p i = q i) : loM p = loM q ∧ hiM p = hiM q :=
  ⟨wordOf_congr fun i hi => h i (by omega), wordOf_congr fun i hi => h (i + 64) (by omega)⟩
def putA (a r : Nat) : Nat := if r < 64 then a ||| 2 ^ r else a
def putB (b r : Nat) : Nat := if r < 64 then b else b ||| 2 ^ (r - 64)
def cutA (a r : Nat) : Nat := if r < 64 then a &&& (18446744073709551615 - 2 ^ r) else a
def cutB (b r : Nat) : Nat := if r < 64 then b else b &&& (18446744073709551615 - 2 ^ (r - 64))
theorem pow_lt64 {r : Nat} (h : r < 64) : 2 ^ r < 18446744073709551616 := by rw [two64]; exact Nat.pow_lt_pow_right (by decide) h
theorem or_lt64 {a c : Nat} (ha : a < 18446744073709551616) (hc : c < 18446744073709551616) : a ||| c < 18446744073709551616 := by rw [two64] at *; exact Nat.or_lt_two_pow ha hc
theorem and_lt64 {a : Nat} (c : Nat) (ha : a < 18446744073709551616) : a &&& c < 18446744073709551616 := Nat.lt_of_le_of_lt Nat.and_le_left ha
theorem putA_lt {a r : Nat} (ha : a < 18446744073709551616) : putA a r < 18446744073709551616 := by
  unfold putA; split
  · exact or_lt64 ha (pow_lt64 (by assumption))
  · exact ha
theorem putB_lt {b r : Nat} (hb : b < 18446744073709551616) (hr : r < 128) : putB b r < 18446744073709551616 := by
  unfold putB; split
  · exact hb
  · exact or_lt64 hb (pow_lt64 (by omega))
theorem put_bit (a b r i : Nat) (hr : r < 128) (hi : i < 128) : bitM (putA a r) (putB b r) i = (bitM a b i || decide (i = r)) := by
  unfold bitM putA putB
  by_cases h1 : i < 64 <;> by_cases h2 : r < 64
  · rw [if_pos h1, if_pos h1, if_pos h2, Nat.testBit_or, Nat.testBit_two_pow]
    congr 1; exact decide_eq_decide.2 ⟨fun h => h.symm, fun h => h.symm⟩
  · rw [if_pos h1, if_pos h1, if_neg h2, decide_eq_false (by omega)]; simp
  · rw [if_neg h1, if_neg h1, if_pos h2, decide_eq_false (by omega)]; simp
  · rw [if_neg h1, if_neg h1, if_neg h2, Nat.testBit_or, Nat.testBit_two_pow]
    congr 1; exact decide_eq_decide.2 ⟨fun h => by omega, fun h => by omega⟩
theorem and_bit (a b c d i : Nat) : bitM (a &&& c) (b &&& d) i = (bitM a b i && bitM c d i) := by
  unfold bitM; split <;> exact Nat.testBit_and _ _ _
theorem or_bit (a b c d i : Nat) : bitM (a ||| c) (b ||| d) i = (bitM a b i || bitM c d i) := by
  unfold bitM; split <;> exact Nat.testBit_or _ _ _
theorem zero_bit (i : Nat) : bitM 0 0 i = false := by unfold bitM; split <;> exact Nat.zero_testBit _
def fstA (k : Nat) : Nat := 2 ^ (min k 64) - 1
def fstB (k : Nat) : Nat := 2 ^ (k - 64) - 1
theorem fst_lt {j : Nat} (h : j ≤ 64) : 2 ^ j - 1 < 18446744073709551616 := by
  have : (2 : Nat) ^ j ≤ 2 ^ 64 := Nat.pow_le_pow_right (by decide) h
  have : 0 < (2 : Nat) ^ j := Nat.pow_pos (by decide)
  rw [two64]; omega
theorem fst_bit (k i : Nat) (hk : k ≤ 128) (hi : i < 128) : bitM (fstA k) (fstB k) i = decide (i < k) := by
  unfold bitM fstA fstB
  by_cases h : i < 64
  · rw [if_pos h, Nat.testBit_two_pow_sub_one]; apply decide_eq_decide.2; omega
  · rw [if_neg h, Nat.testBit_two_pow_sub_one]; apply decide_eq_decide.2; omega
def majB (a b k : Nat) : Bool := decide (1 ≤ k) && decide (k < 2 * popM (a &&& fstA k) (b &&& fstB k))
end Go.Proofs.YtjmkecaljkcoiaaGreatDoor
