/-
  Digits of base 16: the plain functions.
-/
import Derived.Test.YtapnlclcphcbfaaLib
import Derived.Laws.BitsAllLaws
namespace Go.Proofs.Ytapnlclcphcbfaa
open Go.RowKit

/-- The digit of a number below 16. -/
def hexD (k : Nat) : UInt8 := if k < 10 then UInt8.ofNat (48 + k) else UInt8.ofNat (87 + k)
/-- What a digit stands for. -/
def digV (c : UInt8) : Option Nat := if 48 ≤ c.toNat ∧ c.toNat ≤ 57 then some (c.toNat - 48) else if 97 ≤ c.toNat ∧ c.toNat ≤ 102 then some (c.toNat - 87) else none
theorem digV_lt {c : UInt8} {k : Nat} (h : digV c = some k) : k < 16 := by
  unfold digV at h
  split at h
  · injection h; omega
  · split at h
    · injection h; omega
    · cases h
theorem hexD_toNat (k : Nat) (h : k < 16) : (hexD k).toNat = if k < 10 then 48 + k else 87 + k := by
  unfold hexD; split <;> simp <;> omega
theorem digV_hexD (k : Nat) (h : k < 16) : digV (hexD k) = some k := by
  have e := hexD_toNat k h
  unfold digV
  by_cases h10 : k < 10
  · rw [if_pos h10] at e; rw [e, if_pos (by omega)]; congr 1; omega
  · rw [if_neg h10] at e; rw [e, if_neg (by omega), if_pos (by omega)]; congr 1; omega
def hexL : List UInt8 → List UInt8
  | [] => []
  | b :: t => hexD (b.toNat / 16) :: hexD (b.toNat % 16) :: hexL t
theorem hexL_append (p q : List UInt8) : hexL (p ++ q) = hexL p ++ hexL q := by
  induction p with
  | nil => rfl
  | cons b t ih => simp [hexL, ih]
theorem hexL_snoc (p : List UInt8) (b : UInt8) : hexL (p ++ [b]) = hexL p ++ [hexD (b.toNat / 16), hexD (b.toNat % 16)] := hexL_append p [b]
theorem hexL_len (p : List UInt8) : (hexL p).length = 2 * p.length := by
  induction p with
  | nil => rfl
  | cons b t ih => simp [hexL, ih]; omega
def unhexL : List UInt8 → Option (List UInt8)
  | [] => some []
  | [_] => none
  | a :: b :: t =>
    match digV a, digV b, unhexL t with
    | some x, some y, some r => some (UInt8.ofNat (x * 16 + y) :: r)
    | _, _, _ => none
theorem unhexL_cons (a b : UInt8) (t : List UInt8) : unhexL (a :: b :: t) = (match digV a, digV b, unhexL t with
    | some x, some y, some r => some (UInt8.ofNat (x * 16 + y) :: r)
    | _, _, _ => none) := by rw [unhexL]
theorem unhex_hex (l : List UInt8) : unhexL (hexL l) = some l := by
  induction l with
  | nil => rfl
  | cons b t ih =>
    have hb := b.toNat_lt
    rw [hexL, unhexL_cons, ih, digV_hexD _ (by omega), digV_hexD _ (by omega)]
    simp only [Option.some.injEq, List.cons.injEq, and_true]
    rw [show b.toNat / 16 * 16 + b.toNat % 16 = b.toNat from by omega]
    simp
theorem unhex_append (k : Nat) : ∀ p q : List UInt8, p.length = 2 * k → unhexL (p ++ q) = match unhexL p, unhexL q with | some r, some s => some (r ++ s) | _, _ => none := by
  induction k with
  | zero =>
    intro p q h
    obtain rfl := List.eq_nil_of_length_eq_zero h
    simp only [List.nil_append, unhexL]
    cases unhexL q <;> rfl
  | succ k ih =>
    intro p q h
    match p, h with
    | a :: b :: t, h =>
      have ht : t.length = 2 * k := by simp at h; omega
      rw [List.cons_append, List.cons_append, unhexL_cons, unhexL_cons, ih t q ht]
      cases digV a <;> cases digV b <;> cases unhexL t <;> cases unhexL q <;> simp
theorem unhex_odd (k : Nat) : ∀ p : List UInt8, p.length = 2 * k + 1 → unhexL p = none := by
  induction k with
  | zero =>
    intro p h
    match p, h with
    | [a], _ => rfl
  | succ k ih =>
    intro p h
    match p, h with
    | a :: b :: t, h =>
      rw [unhexL_cons, ih t (by simp at h; omega)]
      cases digV a <;> cases digV b <;> rfl
theorem unhex_len (k : Nat) : ∀ p r : List UInt8, p.length = 2 * k → unhexL p = some r → r.length = k := by
  induction k with
  | zero =>
    intro p r h e
    obtain rfl := List.eq_nil_of_length_eq_zero h
    simp [unhexL] at e; subst e; rfl
  | succ k ih =>
    intro p r h e
    match p, h with
    | a :: b :: t, h =>
      rw [unhexL_cons] at e
      cases ha : digV a <;> cases hb : digV b <;> cases ht : unhexL t <;> rw [ha, hb, ht] at e <;> simp at e
      rename_i x y s
      subst e
      have := ih t s (by simp at h; omega) ht
      simp [this]
/-- At the head of a round of Unhex: j pairs are read. -/
structure UnInv (s : List UInt8) (j : Nat) (r : List UInt8) : Prop where
  part : unhexL (s.take (2 * j)) = some r
  upto : 2 * j ≤ s.length
theorem UnInv.start (s : List UInt8) : UnInv s 0 [] := ⟨by simp [unhexL], by omega⟩
section
variable {s r : List UInt8} {j : Nat}
theorem UnInv.len (h : UnInv s j r) : r.length = j := unhex_len j _ _ (by have := h.upto; simp; omega) h.part
theorem take_two (h : 2 * j + 1 < s.length) : s.take (2 * (j + 1)) = s.take (2 * j) ++ [s[2 * j], s[2 * j + 1]] := by
  rw [show 2 * (j + 1) = 2 * j + 1 + 1 from by omega, List.take_succ_eq_append_getElem h, List.take_succ_eq_append_getElem (by omega : 2 * j < s.length), List.append_assoc]
  rfl
theorem UnInv.step (h : UnInv s j r) (hj : 2 * j + 1 < s.length) {x y : Nat} (hx : digV s[2 * j] = some x) (hy : digV s[2 * j + 1] = some y) : UnInv s (j + 1) (r ++ [UInt8.ofNat (x * 16 + y)]) := by
  refine ⟨?_, by omega⟩
  rw [take_two hj, unhex_append j _ _ (by simp; omega), h.part, unhexL_cons, hx, hy]
  simp [unhexL]
theorem UnInv.bad (h : UnInv s j r) (hj : 2 * j + 1 < s.length) (hb : digV s[2 * j] = none ∨ digV s[2 * j + 1] = none) : unhexL s = none := by
  have e : s = s.take (2 * j) ++ (s[2 * j] :: s[2 * j + 1] :: s.drop (2 * j + 2)) := by
    rw [← List.drop_eq_getElem_cons hj, ← List.drop_eq_getElem_cons (by omega : 2 * j < s.length), List.take_append_drop]
  rw [e, unhex_append j _ _ (by simp; omega), h.part, unhexL_cons]
  rcases hb with hb | hb
  · rw [hb]
  · rw [hb]; cases digV s[2 * j] <;> rfl
theorem UnInv.odd (_h : UnInv s j r) (hj : s.length = 2 * j + 1) : unhexL s = none := unhex_odd j s hj
theorem UnInv.done (h : UnInv s j r) (hj : s.length = 2 * j) : unhexL s = some r := by
  have := h.part
  rwa [List.take_of_length_le (by omega)] at this
end
theorem unhex_odd_mod (s : List UInt8) (h : s.length % 2 = 1) : unhexL s = none := unhex_odd (s.length / 2) s (by omega)
end Go.Proofs.Ytapnlclcphcbfaa
