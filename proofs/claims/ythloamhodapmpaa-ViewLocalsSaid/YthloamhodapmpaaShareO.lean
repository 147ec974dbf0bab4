/-
  An element's cell of a row of the call's own, written in place.
-/
import Derived.Test.YthloamhodapmpaaRowE
import Derived.Maps.AppendAt
namespace Go.Proofs.Ythloamhodapmpaa
open Go.RowKit
set_option linter.unusedVariables false

section
variable {α : Type} {enc : α → List Value} {k : Nat}
theorem ec_set (h : EncOk enc k) (L : List α) (j i : Nat) (y : α) (u : Value) (hj : j < L.length) (hi : i < k) (he : enc y = (enc L[j]).set i u) : ec enc (L.set j y) = (ec enc L).set (j * k + i) u := by
  induction L generalizing j with
  | nil => simp at hj
  | cons x L ih =>
    cases j with
    | zero =>
      rw [List.set_cons_zero, ec_cons, ec_cons, Nat.zero_mul, Nat.zero_add, List.set_append_left _ _ (by rw [h.len]; exact hi)]
      rw [he]; rfl
    | succ j =>
      rw [List.set_cons_succ, ec_cons, ec_cons, ih j (by simpa using hj) (by simpa using he), List.set_append_right _ _ (by rw [h.len, Nat.add_mul]; omega), h.len]
      congr 2
      rw [Nat.add_mul]; omega
variable {w : World} {T : TypeId} {base n c g : Nat} {L : List α}
theorem OwnE.stored (H : EncOk enc k) (h : OwnE T enc k w base (.slice (some ⟨g, 0, none⟩) n c) n L) {j i : Nat} {y : α} {u : Value} (hj : j < L.length) (hi : i < k) (he : enc y = (enc L[j]).set i u) :
    OwnE T enc k (w.setCell ⟨g, j * k + i, none⟩ u) base (.slice (some ⟨g, 0, none⟩) n c) n (L.set j y) := by
  have := (World.ownsRow.stored h (j * k + i) u).1
  unfold OwnE
  rw [ec_set H L j i y u hj hi he]
  exact this
theorem OwnE.cell_ (H : EncOk enc k) (h : OwnE T enc k w base (.slice (some ⟨g, 0, none⟩) n c) n L) {j i : Nat} {v : Value} (hj : j < L.length) (hi : i < k) (hv : (enc L[j])[i]? = some v) : w.cell? ⟨g, j * k + i, none⟩ = some v := by
  have hl := h.len H
  have hlt : j * k + i < n * k := by
    have : (j + 1) * k ≤ n * k := Nat.mul_le_mul_right k (by omega)
    rw [Nat.add_mul] at this
    omega
  rw [World.ownsRow.cellAt h (j * k + i) hlt]
  exact ec_at H hj hv
theorem OwnE.fz_ (h : OwnE T enc k w base (.slice (some ⟨g, 0, none⟩) n c) n L) (j : Nat) : w.frozen? ⟨g, j, none⟩ = false := World.ownsRow.frozenAt h j
theorem OwnE.form {A : Option Addr} (h : OwnE T enc k w base (.slice A n c) n L) (hn : 0 < n) : ∃ g, A = some ⟨g, 0, none⟩ ∧ base ≤ g ∧ g < w.heap.size := by
  rcases h.2 with ⟨_, h0⟩ | ⟨g, cap, cur, hv, hb, hg, _⟩
  · omega
  · injection hv with h1
    exact ⟨g, h1, hb, (Array.getElem?_eq_some_iff.1 hg).1⟩
end
end Go.Proofs.Ythloamhodapmpaa
