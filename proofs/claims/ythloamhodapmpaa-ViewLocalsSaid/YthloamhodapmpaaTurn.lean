/-
  What a call may turn: two blocks, and nothing else that was there. Plain lemmas.
-/
import Derived.Test.YthloamhodapmpaaLib
import Derived.Laws.AppendOwn
namespace Go.Proofs.Ythloamhodapmpaa
open Go.RowKit
set_option linter.unusedVariables false

/-- Nothing that was there has turned but blocks b and mg. -/
structure Turn (w w' : World) (b : Nat) (mg : Option Nat) : Prop where
  os : w'.os = w.os
  tape : w'.tape = w.tape
  output : w'.output = w.output
  size : w.heap.size ≤ w'.heap.size
  block : ∀ i, i < w.heap.size → i ≠ b → some i ≠ mg → w'.heap[i]? = w.heap[i]?
/-- The set's map is the one it was, or new. -/
def Mov (w : World) (mg mg' : Option Nat) : Prop := mg' = mg ∨ ∃ g, mg' = some g ∧ w.heap.size ≤ g
section
variable {w w' w2 : World} {b g : Nat} {mg mg' mg2 : Option Nat}
theorem Turn.refl (w : World) (b : Nat) (mg : Option Nat) : Turn w w b mg := ⟨rfl, rfl, rfl, Nat.le_refl _, fun _ _ _ _ => rfl⟩
theorem Turn.of_below (h : Below w.heap.size w w') (b : Nat) (mg : Option Nat) : Turn w w' b mg := ⟨h.os, h.tape, h.output, h.size, fun i hi _ _ => h.block i hi⟩
theorem Turn.of_grown {row : Option Nat} (h : w.grownBy w' row) (hr : ∀ i, row = some i → i = b ∨ some i = mg ∨ w.heap.size ≤ i) : Turn w w' b mg :=
  ⟨h.os, h.tape, h.output, h.size, fun i hi h1 h2 => h.block i hi fun e => by
    rcases hr i e.symm with h | h | h
    · exact h1 h
    · exact h2 h
    · omega⟩
theorem Turn.trans (h : Turn w w' b mg) (k : Turn w' w2 b mg') (hm : Mov w mg mg') : Turn w w2 b mg :=
  ⟨k.os.trans h.os, k.tape.trans h.tape, k.output.trans h.output, Nat.le_trans h.size k.size, fun i hi h1 h2 => (k.block i (Nat.lt_of_lt_of_le hi h.size) h1 fun e => by
    rcases hm with rfl | ⟨g, rfl, hg⟩
    · exact h2 e
    · injection e with e; omega).trans (h.block i hi h1 h2)⟩
theorem Mov.refl (w : World) (mg : Option Nat) : Mov w mg mg := .inl rfl
theorem Mov.trans (h : Mov w mg mg') (k : Mov w' mg' mg2) (hs : w.heap.size ≤ w'.heap.size) : Mov w mg mg2 := by
  rcases k with rfl | ⟨g, rfl, hg⟩
  · exact h
  · exact .inr ⟨g, rfl, by omega⟩
theorem Mov.base {base : Nat} (h : Mov w mg mg') (hm : ∀ g, mg = some g → base ≤ g) (hb : base ≤ w.heap.size) : ∀ g, mg' = some g → base ≤ g := by
  intro g hg
  rcases h with rfl | ⟨g', rfl, hg'⟩
  · exact hm g hg
  · injection hg with e; omega
theorem Turn.below {B : Nat} (h : Turn w w' b mg) (hB : B ≤ w.heap.size) (hb : B ≤ b) (hm : ∀ g, mg = some g → B ≤ g) : Below B w w' :=
  ⟨h.os, h.tape, h.output, h.size, fun i hi => h.block i (by omega) (by omega) fun e => by have := hm i e.symm; omega⟩
/-- A store into block b. -/
theorem Turn.set_ (h : Turn w w' b mg) {p : Addr} (hp : p.block = b) (u : Value) : Turn w (w'.setCell p u) b mg :=
  ⟨h.os, h.tape, h.output, Nat.le_trans h.size (by simp), fun i hi h1 h2 => (Below.heap_setCell w' p u i (by rw [hp]; exact h1)).trans (h.block i hi h1 h2)⟩
/-- A store into what is new. -/
theorem Turn.setNew (h : Turn w w' b mg) {p : Addr} (hp : w.heap.size ≤ p.block) (u : Value) : Turn w (w'.setCell p u) b mg :=
  ⟨h.os, h.tape, h.output, Nat.le_trans h.size (by simp), fun i hi h1 h2 => (Below.heap_setCell w' p u i (by omega)).trans (h.block i hi h1 h2)⟩
theorem Turn.alloc (h : Turn w w' b mg) (o : Obj) : Turn w (w'.alloc o) b mg :=
  ⟨h.os, h.tape, h.output, Nat.le_trans h.size (by simp), fun i hi h1 h2 => (Below.heap_alloc w' o i (Nat.lt_of_lt_of_le hi h.size)).trans (h.block i hi h1 h2)⟩
theorem Turn.drew (h : Turn w w' b mg) : Turn w w'.drew b mg := ⟨h.os, h.tape, h.output, h.size, h.block⟩
/-- Behind a call that makes memory alone. -/
theorem Turn.later (h : Turn w w' b mg) (k : Below w'.heap.size w' w2) : Turn w w2 b mg :=
  ⟨k.os.trans h.os, k.tape.trans h.tape, k.output.trans h.output, Nat.le_trans h.size k.size, fun i hi h1 h2 => (k.block i (Nat.lt_of_lt_of_le hi h.size)).trans (h.block i hi h1 h2)⟩
/-- Ahead of one that turned. -/
theorem Turn.ahead (h : Below w.heap.size w w') (k : Turn w' w2 b mg) : Turn w w2 b mg :=
  ⟨k.os.trans h.os, k.tape.trans h.tape, k.output.trans h.output, Nat.le_trans h.size k.size, fun i hi h1 h2 => (k.block i (Nat.lt_of_lt_of_le hi h.size) h1 h2).trans (h.block i hi)⟩
theorem Turn.cell (h : Turn w w' b mg) {p : Addr} {v : Value} (hc : w.cell? p = some v) (h1 : p.block ≠ b) (h2 : some p.block ≠ mg) : w'.cell? p = some v :=
  (World.cell?_of_block (h.block p.block (World.block_lt_of_cell? w p hc) h1 h2)).trans hc
end
end Go.Proofs.Ythloamhodapmpaa
