/-
  Layer 5: variables of 128 bools; the document's Set, Flags, Of, Count.
-/
import Derived.Test.YthloamhodapmpaaMask4
import Derived.Test.YthloamhodapmpaaBit1
import Derived.Deep.WholeRow
namespace Go.Proofs.Ythloamhodapmpaa
open Go.RowKit
set_option linter.unusedVariables false
set_option linter.unusedSimpArgs false

/-- 128 bools as cells. -/
def flagsA (p : Nat → Bool) : Array Value := ((List.range 128).map fun i => Value.bool (p i)).toArray
theorem flagsA_size (p : Nat → Bool) : (flagsA p).size = 128 := by simp [flagsA]
theorem flagsA_get (p : Nat → Bool) (i : Nat) (h : i < 128) : (flagsA p)[i]? = some (.bool (p i)) := by simp [flagsA, h]
theorem flagsA_over (p : Nat → Bool) (i : Nat) (h : ¬ i < 128) : (flagsA p)[i]? = none := by simp [flagsA]; omega
theorem flagsA_one (p : Nat → Bool) : (flagsA p).all (·.oneCell') = true := by
  rw [Array.all_eq_true_iff_forall_mem]
  intro x hx
  simp only [flagsA, List.mem_toArray, List.mem_map] at hx
  obtain ⟨i, _, rfl⟩ := hx
  rfl
theorem flagsA_congr {p q : Nat → Bool} (h : ∀ i, i < 128 → p i = q i) : flagsA p = flagsA q := by
  unfold flagsA
  congr 1
  exact List.map_congr_left fun i hi => by rw [h i (by simpa using hi)]
theorem flagsA_set (p : Nat → Bool) (i : Nat) (v : Bool) (h : i < 128) : (flagsA p).setIfInBounds i (.bool v) = flagsA fun j => if j = i then v else p j := by
  apply Array.ext_getElem?
  intro j
  rw [Array.getElem?_setIfInBounds]
  by_cases hj : j < 128
  · rw [flagsA_get _ _ hj]
    by_cases e : i = j
    · subst e
      rw [if_pos rfl, if_pos (by rw [flagsA_size]; exact h), flagsA_get _ _ hj, if_pos rfl]
    · rw [if_neg e, flagsA_get _ _ hj, if_neg (fun x => e x.symm)]
  · rw [flagsA_over _ _ hj]
    by_cases e : i = j
    · omega
    · rw [if_neg e, flagsA_over _ _ hj]
theorem zeroFlags (w : World) : (zeroValue 75).run Try.prog w = .ok (.agg (flagsA fun _ => false)) w := by kernel_rfl
theorem sizeFlags (p : Nat → Bool) : (Try.prog.info? 75).map (·.size) = some (flagsA p).size := by
  rw [flagsA_size]; kernel_rfl
/-- 128 bools in block b. -/
def FAt (w : World) (b : Nat) (p : Nat → Bool) : Prop := w.heap[b]? = some (.cells (flagsA p) 75 (0, 0))
section
variable {w w' : World} {b : Nat} {p : Nat → Bool}
theorem FAt.cell (h : FAt w b p) {i : Nat} (hi : i < 128) : w.cell? ⟨b, i, none⟩ = some (.bool (p i)) := (cell_of_row w b i _ _ _ h).trans (flagsA_get p i hi)
theorem FAt.fz (h : FAt w b p) (i : Nat) : w.frozen? ⟨b, i, none⟩ = false := frozen_of_row w b i _ _ h
theorem FAt.lt (h : FAt w b p) : b < w.heap.size := (Array.getElem?_eq_some_iff.1 h).1
theorem FAt.below {B : Nat} (h : FAt w b p) (hb : Below B w w') (hB : b < B) : FAt w' b p := (hb.block b hB).trans h
theorem FAt.later (h : FAt w b p) (hb : Below w.heap.size w w') : FAt w' b p := h.below hb h.lt
theorem FAt.alloc (h : FAt w b p) (o : Obj) : FAt (w.alloc o) b p := (Below.heap_alloc w o b h.lt).trans h
theorem FAt.mk_ (w : World) (p : Nat → Bool) : FAt (w.alloc (.cells (flagsA p) 75)) w.heap.size p := heap_alloc_new w _
theorem FAt.other (h : FAt w b p) {a : Addr} (v : Value) (hb : b ≠ a.block) : FAt (w.setCell a v) b p := (heap_setCell_other w a b v hb).trans h
theorem FAt.set_ (h : FAt w b p) {i : Nat} (hi : i < 128) (v : Bool) : FAt (w.setCell ⟨b, i, none⟩ (.bool v)) b (fun j => if j = i then v else p j) := by
  have h1 := heap_setCell_same w b i _ _ (.bool v) h
  rw [flagsA_set p i v hi] at h1
  exact h1
theorem FAt.congr {q : Nat → Bool} (h : FAt w b p) (hq : ∀ i, i < 128 → p i = q i) : FAt w b q := by
  unfold FAt at *; rw [h, flagsA_congr hq]
end

theorem bitB_test (n k : Nat) : bitB n k = n.testBit k := (Nat.testBit_eq_decide_div_mod_eq).symm
theorem cnt_half (a b k : Nat) (h : k < 128) : cnt (bitM a b) (k + 1) = cnt (bitM a b) k + (bitM a b k).toNat := rfl
end Go.Proofs.Ythloamhodapmpaa
