/-
  Check sums: the plain functions. A division's step is linear in the turning of bits, and tells what is not nought.
-/
import Derived.Test.YtkhkihobbfecoaaLib
import Derived.Test.YtkhkihobbfecoaaForm1
namespace Go.Proofs.Ytkhkihobbfecoaa
open Go.RowKit

theorem xor_mod2 (a b : Nat) : (a ^^^ b) % 2 = a % 2 ^^^ b % 2 := by
  have := Nat.xor_mod_two_pow (a := a) (b := b) (n := 1)
  simpa using this
theorem xor_shuffle (a b c d : Nat) : (a ^^^ b) ^^^ (c ^^^ d) = (a ^^^ c) ^^^ (b ^^^ d) := by
  rw [Nat.xor_assoc, ← Nat.xor_assoc b c d, Nat.xor_comm b c, Nat.xor_assoc c b d, ← Nat.xor_assoc]
theorem xor_eq_zero {a b : Nat} (h : a ^^^ b = 0) : a = b := by
  have e : (a ^^^ b) ^^^ b = 0 ^^^ b := by rw [h]
  rwa [Nat.xor_assoc, Nat.xor_self, Nat.xor_zero, Nat.zero_xor] at e
theorem xor_cancel {a b c : Nat} (h : a ^^^ c = b ^^^ c) : a = b := by
  have e : (a ^^^ c) ^^^ c = (b ^^^ c) ^^^ c := by rw [h]
  rwa [Nat.xor_assoc, Nat.xor_assoc, Nat.xor_self, Nat.xor_zero, Nat.xor_zero] at e
theorem xor_ne {a b : Nat} (h : a ≠ b) : a ^^^ b ≠ 0 := fun e => h (xor_eq_zero e)

/-- What is turned in when a one falls out. -/
def polyN : Nat := 3988292384
/-- A sum goes one place to the right. -/
def stepN (s : Nat) : Nat := if s % 2 = 1 then s / 2 ^^^ polyN else s / 2
theorem polyN_lt : polyN < 2 ^ 32 := by decide
theorem stepN_lt {s : Nat} (h : s < 2 ^ 32) : stepN s < 2 ^ 32 := by
  have h2 : s / 2 < 2 ^ 32 := by omega
  unfold stepN; split
  · exact Nat.xor_lt_two_pow h2 polyN_lt
  · exact h2
theorem stepN_xor (a b : Nat) : stepN (a ^^^ b) = stepN a ^^^ stepN b := by
  have hm := xor_mod2 a b
  have ha : a % 2 = 0 ∨ a % 2 = 1 := by omega
  have hb : b % 2 = 0 ∨ b % 2 = 1 := by omega
  unfold stepN
  rw [hm, Nat.xor_div_two]
  rcases ha with ha | ha <;> rcases hb with hb | hb <;> rw [ha, hb]
  · simp
  · simp [Nat.xor_assoc]
  · simp only [if_true]
    rw [if_pos (by decide), if_neg (by decide), Nat.xor_assoc, Nat.xor_comm (b / 2) polyN, ← Nat.xor_assoc]
  · rw [if_neg (by decide), if_pos rfl, if_pos rfl, xor_shuffle, Nat.xor_self, Nat.xor_zero]
theorem stepN_zero : stepN 0 = 0 := rfl
theorem stepN_ne {s : Nat} (h : s < 2 ^ 32) (hs : s ≠ 0) : stepN s ≠ 0 := by
  intro e
  unfold stepN at e
  split at e
  · have e2 := xor_eq_zero e
    have h31 : s / 2 < 2 ^ 31 := by omega
    rw [e2] at h31
    exact absurd h31 (by decide)
  · omega
def stepK : Nat → Nat → Nat
  | 0, s => s
  | k + 1, s => stepK k (stepN s)
theorem stepK_succ (k s : Nat) : stepK (k + 1) s = stepN (stepK k s) := by
  induction k generalizing s with
  | zero => rfl
  | succ k ih => rw [stepK, ih]; rfl
theorem stepK_lt (k : Nat) {s : Nat} (h : s < 2 ^ 32) : stepK k s < 2 ^ 32 := by
  induction k generalizing s with
  | zero => exact h
  | succ k ih => exact ih (stepN_lt h)
theorem stepK_xor (k a b : Nat) : stepK k (a ^^^ b) = stepK k a ^^^ stepK k b := by
  induction k generalizing a b with
  | zero => rfl
  | succ k ih => rw [stepK, stepN_xor, ih]; rfl
theorem stepK_ne (k : Nat) {s : Nat} (h : s < 2 ^ 32) (hs : s ≠ 0) : stepK k s ≠ 0 := by
  induction k generalizing s with
  | zero => exact hs
  | succ k ih => exact ih (stepN_lt h) (stepN_ne h hs)
theorem stepK_zero (k : Nat) : stepK k 0 = 0 := by
  induction k with
  | zero => rfl
  | succ k ih => rw [stepK, stepN_zero, ih]

/-- A byte goes into a sum. -/
def inN (s : Nat) (c : UInt8) : Nat := stepK 8 (s ^^^ c.toNat)
/-- Bytes go into a sum. -/
def goN (s : Nat) (l : List UInt8) : Nat := l.foldl inN s
def onesN : Nat := 4294967295
def sumN (l : List UInt8) : Nat := goN onesN l ^^^ onesN
theorem onesN_lt : onesN < 2 ^ 32 := by decide
theorem inN_lt {s : Nat} {c : UInt8} (h : s < 2 ^ 32) : inN s c < 2 ^ 32 :=
  stepK_lt 8 (Nat.xor_lt_two_pow h (Nat.lt_trans c.toNat_lt (by decide)))
theorem goN_lt {s : Nat} {l : List UInt8} (h : s < 2 ^ 32) : goN s l < 2 ^ 32 := by
  induction l generalizing s with
  | nil => exact h
  | cons c t ih => exact ih (inN_lt h)
theorem goN_nil (s : Nat) : goN s [] = s := rfl
theorem goN_snoc (s : Nat) (l : List UInt8) (c : UInt8) : goN s (l ++ [c]) = inN (goN s l) c := by simp [goN]
theorem goN_append (s : Nat) (l m : List UInt8) : goN s (l ++ m) = goN (goN s l) m := by simp [goN]
theorem sumN_lt (l : List UInt8) : sumN l < 2 ^ 32 := Nat.xor_lt_two_pow (goN_lt onesN_lt) onesN_lt

/-- Where bytes differ once, their sums do. -/
theorem goN_tells {s t : Nat} (l : List UInt8) (hs : s < 2 ^ 32) (ht : t < 2 ^ 32) (h : s ≠ t) : goN s l ≠ goN t l := by
  induction l generalizing s t with
  | nil => exact h
  | cons c r ih =>
    refine ih (inN_lt hs) (inN_lt ht) ?_
    intro e
    unfold inN at e
    have e2 : stepK 8 ((s ^^^ c.toNat) ^^^ (t ^^^ c.toNat)) = 0 := by rw [stepK_xor, e, Nat.xor_self]
    rw [xor_shuffle, Nat.xor_self, Nat.xor_zero] at e2
    exact stepK_ne 8 (Nat.xor_lt_two_pow hs ht) (xor_ne h) e2
theorem sumN_tells (p q : List UInt8) (x y : UInt8) (h : x ≠ y) : sumN (p ++ x :: q) ≠ sumN (p ++ y :: q) := by
  unfold sumN
  intro e
  have e := xor_cancel e
  rw [goN_append, goN_append] at e
  have hp := goN_lt (l := p) onesN_lt
  refine goN_tells q (inN_lt hp) (inN_lt hp) ?_ e
  intro e2
  unfold inN at e2
  have e3 : stepK 8 ((goN onesN p ^^^ x.toNat) ^^^ (goN onesN p ^^^ y.toNat)) = 0 := by rw [stepK_xor, e2, Nat.xor_self]
  rw [xor_shuffle, Nat.xor_self, Nat.zero_xor] at e3
  have hx : x.toNat ^^^ y.toNat < 2 ^ 32 := Nat.xor_lt_two_pow (Nat.lt_trans x.toNat_lt (by decide)) (Nat.lt_trans y.toNat_lt (by decide))
  exact stepK_ne 8 hx (xor_ne fun e => h (UInt8.toNat_inj.1 e)) e3

/-- Three texts turned in one another. -/
def mix3 : List UInt8 → List UInt8 → List UInt8 → List UInt8
  | a :: l, b :: m, c :: n => (a ^^^ b ^^^ c) :: mix3 l m n
  | _, _, _ => []
theorem goN_mix (a b c : List UInt8) (s t u : Nat) (h1 : a.length = b.length) (h2 : b.length = c.length) :
    goN (s ^^^ t ^^^ u) (mix3 a b c) = goN s a ^^^ goN t b ^^^ goN u c := by
  induction a generalizing b c s t u with
  | nil =>
    obtain rfl := List.eq_nil_of_length_eq_zero h1.symm
    obtain rfl := List.eq_nil_of_length_eq_zero h2.symm
    rfl
  | cons x l ih =>
    match b, c, h1, h2 with
    | y :: m, z :: n, h1, h2 =>
      have e : inN (s ^^^ t ^^^ u) (x ^^^ y ^^^ z) = inN s x ^^^ inN t y ^^^ inN u z := by
        unfold inN
        rw [UInt8.toNat_xor, UInt8.toNat_xor]
        simp only [stepK_xor]
        ac_rfl
      show goN (inN (s ^^^ t ^^^ u) (x ^^^ y ^^^ z)) (mix3 l m n) = _
      rw [e, ih m n _ _ _ (by simpa using h1) (by simpa using h2)]
      rfl
theorem sumN_mix (a b c : List UInt8) (h1 : a.length = b.length) (h2 : b.length = c.length) : sumN (mix3 a b c) = sumN a ^^^ sumN b ^^^ sumN c := by
  have e := goN_mix a b c onesN onesN onesN h1 h2
  rw [Nat.xor_self, Nat.zero_xor] at e
  unfold sumN
  rw [e, xor_shuffle (goN onesN a) onesN, Nat.xor_self, Nat.xor_zero, Nat.xor_assoc]
end Go.Proofs.Ytkhkihobbfecoaa
