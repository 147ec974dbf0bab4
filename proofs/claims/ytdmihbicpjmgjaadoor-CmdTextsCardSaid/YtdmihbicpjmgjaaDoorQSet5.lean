/-
  Sets of processes: the contract of Has.
-/
import Derived.Test.YtdmihbicpjmgjaaDoorQMask1
import Derived.Test.YtdmihbicpjmgjaaDoorQFlow
import Derived.StillTailTactics
namespace Go.Proofs.YtdmihbicpjmgjaaDoor
open Go.RowKit Go.Maps
set_option linter.unusedVariables false
set_option linter.unusedSimpArgs false

/-- A cell of what is there, whatever is made behind it. -/
theorem cell_later {w w' : World} {a : Addr} {v : Value} (h : w.cell? a = some v) (hb : Below w.heap.size w w') : w'.cell? a = some v := (hb.cell (World.block_lt_of_cell? w a h)).trans h
end Go.Proofs.YtdmihbicpjmgjaaDoor
namespace Go.Proofs.YtdmihbicpjmgjaaDoor
open Go.RowKit Go.Maps
set_option linter.unusedVariables false
set_option linter.unusedSimpArgs false

theorem heap_setCell_at {w : World} {b : Nat} {u v : Value} {T : TypeId} (h : w.heap[b]? = some (.cells #[u] T (0, 0))) : (w.setCell ⟨b, 0, none⟩ v).heap[b]? = some (.cells #[v] T (0, 0)) := by
  simp [World.setCell, Array.getElem?_modify, h]
theorem turn_first {w : World} {b : Nat} (v : Value) (o : Obj) (mg : Option Nat) : Turn w ((w.alloc o).setCell ⟨b, 0, none⟩ v) b mg :=
  ⟨rfl, rfl, rfl, by simp [World.setCell], fun i hi h1 _ => by rw [Below.heap_setCell _ _ _ _ h1, Below.heap_alloc _ _ _ hi]⟩
/-! ### Drop -/
end Go.Proofs.YtdmihbicpjmgjaaDoor
namespace Go.Proofs.YtdmihbicpjmgjaaDoor
open Go.RowKit Go.Maps
set_option linter.unusedVariables false
set_option linter.unusedSimpArgs false

/-- What is there when k of l have been laid in. -/
def UniTo (l : List Pr) (acc : List Pr) (k : Nat) (acc' : List Pr) : Prop := acc' = (l.take k).foldl dedS acc
theorem UniTo.start (l acc : List Pr) : UniTo l acc 0 acc := by simp [UniTo]
theorem UniTo.step {l acc acc' : List Pr} {k : Nat} (h : UniTo l acc k acc') (hk : k < l.length) : UniTo l acc (k + 1) (dedS acc' l[k]) := by
  unfold UniTo at *
  rw [List.take_succ_eq_append_getElem hk, List.foldl_append, List.foldl_cons, List.foldl_nil, ← h]
theorem UniTo.done {l acc acc' : List Pr} {k : Nat} (h : UniTo l acc k acc') (hk : l.length ≤ k) : acc' = l.foldl dedS acc := by
  unfold UniTo at h
  rwa [List.take_of_length_le hk] at h
end Go.Proofs.YtdmihbicpjmgjaaDoor
namespace Go.Proofs.YtdmihbicpjmgjaaDoor
open Go.RowKit Go.Maps
set_option linter.unusedVariables false
set_option linter.unusedSimpArgs false

/-- What of the first k of l is told of by f. -/
def FilTo (f : Pr → Bool) (l : List Pr) (k : Nat) (acc : List Pr) : Prop := acc = (l.take k).filter f
theorem FilTo.start (f : Pr → Bool) (l : List Pr) : FilTo f l 0 [] := by simp [FilTo]
theorem FilTo.yes {f : Pr → Bool} {l acc : List Pr} {k : Nat} (h : FilTo f l k acc) (hk : k < l.length) (hf : f l[k] = true) : FilTo f l (k + 1) (acc ++ [l[k]]) := by
  unfold FilTo at *
  rw [List.take_succ_eq_append_getElem hk, List.filter_append, ← h]
  simp [hf]
theorem FilTo.no {f : Pr → Bool} {l acc : List Pr} {k : Nat} (h : FilTo f l k acc) (hk : k < l.length) (hf : f l[k] = false) : FilTo f l (k + 1) acc := by
  unfold FilTo at *
  rw [List.take_succ_eq_append_getElem hk, List.filter_append, ← h]
  simp [hf]
theorem FilTo.done {f : Pr → Bool} {l acc : List Pr} {k : Nat} (h : FilTo f l k acc) (hk : l.length ≤ k) : acc = l.filter f := by
  unfold FilTo at h
  rwa [List.take_of_length_le hk] at h
/-! ### the document's -/
end Go.Proofs.YtdmihbicpjmgjaaDoor
