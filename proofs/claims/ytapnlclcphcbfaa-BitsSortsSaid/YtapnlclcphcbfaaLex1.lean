/-
  Forms stand in the order of their numbers.
-/
import Derived.Test.YtapnlclcphcbfaaBytes1
import Derived.Test.YtapnlclcphcbfaaForm1
namespace Go.Proofs.Ytapnlclcphcbfaa
open Go.RowKit
theorem numL_acc (acc : Nat) (b : List UInt8) : b.foldl (fun a x => a * 256 + x.toNat) acc = acc * 2 ^ (8 * b.length) + numL b := by
  induction b generalizing acc with
  | nil => simp [numL_nil]
  | cons x t ih =>
    have e : 2 ^ (8 * (x :: t).length) = 256 * 2 ^ (8 * t.length) := by
      rw [show (256 : Nat) = 2 ^ 8 from rfl, ← Nat.pow_add]; congr 1; simp; omega
    have e2 : numL (x :: t) = (0 * 256 + x.toNat) * 2 ^ (8 * t.length) + numL t := by
      rw [show numL (x :: t) = t.foldl (fun a x => a * 256 + x.toNat) (0 * 256 + x.toNat) from rfl, ih]
    rw [List.foldl_cons, ih, e, e2, Nat.add_mul, Nat.mul_assoc]
    simp
    omega
theorem numL_append (a b : List UInt8) : numL (a ++ b) = numL a * 2 ^ (8 * b.length) + numL b := by
  rw [numL, List.foldl_append, numL_acc]; rfl
theorem numL_cons (x : UInt8) (s : List UInt8) : numL (x :: s) = x.toNat * 2 ^ (8 * s.length) + numL s := by
  have := numL_append [x] s
  simpa [numL] using this
theorem lex_lt (p s t : List UInt8) (x y : UInt8) (hs : s.length = t.length) (h : x.toNat < y.toNat) : numL (p ++ x :: s) < numL (p ++ y :: t) := by
  rw [numL_append, numL_append, numL_cons, numL_cons]
  have e : (x :: s).length = (y :: t).length := by simp [hs]
  rw [e, hs]
  have h1 := numL_lt s
  rw [hs] at h1
  have h2 : (x.toNat + 1) * 2 ^ (8 * t.length) ≤ y.toNat * 2 ^ (8 * t.length) := Nat.mul_le_mul_right _ h
  rw [Nat.add_mul] at h2
  omega
theorem lex_iff {l m : List UInt8} {j : Nat} (hlm : l.length = m.length) (hl : j < l.length) (hm : j < m.length) (ht : l.take j = m.take j) (hb : l[j] ≠ m[j]) : (l[j].toNat < m[j].toNat ↔ numL l < numL m) ∧ numL l ≠ numL m := by
  have e1 : l = l.take j ++ l[j] :: l.drop (j + 1) := by rw [← List.drop_eq_getElem_cons hl, List.take_append_drop]
  have e2 : m = l.take j ++ m[j] :: m.drop (j + 1) := by rw [ht, ← List.drop_eq_getElem_cons hm, List.take_append_drop]
  have hd : (l.drop (j + 1)).length = (m.drop (j + 1)).length := by simp [hlm]
  have hne : l[j].toNat ≠ m[j].toNat := fun e => hb (UInt8.toNat_inj.1 e)
  rcases Nat.lt_or_ge l[j].toNat m[j].toNat with h | h
  · have := lex_lt (l.take j) _ _ _ _ hd h
    rw [← e1, ← e2] at this
    exact ⟨⟨fun _ => this, fun _ => h⟩, by omega⟩
  · have := lex_lt (l.take j) _ _ m[j] l[j] hd.symm (by omega)
    rw [← e1, ← e2] at this
    exact ⟨⟨fun h' => by omega, fun h' => by omega⟩, by omega⟩
end Go.Proofs.Ytapnlclcphcbfaa
