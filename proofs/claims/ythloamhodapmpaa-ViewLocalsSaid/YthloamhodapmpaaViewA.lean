/-
  Words for a view's block.
-/
import Derived.Test.YthloamhodapmpaaView8
namespace Go.Proofs.Ythloamhodapmpaa
open Go.RowKit Go.Maps
set_option linter.unusedVariables false

theorem VAt.mk_ (w : World) (x : Vw) : VAt (w.alloc (.cells #[.int .u64 (x.id : Int), .slice x.A x.m x.c, .slice x.B x.d x.e, .slice x.C x.f x.g] 26)) w.heap.size x := heap_alloc_new w _
theorem VAt.lt {w : World} {b : Nat} {x : Vw} (h : VAt w b x) : b < w.heap.size := (Array.getElem?_eq_some_iff.1 h).1
theorem VAt.later {w w' : World} {b : Nat} {x : Vw} (h : VAt w b x) (hb : Below w.heap.size w w') : VAt w' b x := (hb.block b h.lt).trans h
theorem VAt.alloc {w : World} {b : Nat} {x : Vw} (h : VAt w b x) (o : Obj) : VAt (w.alloc o) b x := h.later ((Below.refl _ _).alloc (Nat.le_refl _) o)
theorem VAt.cells {w : World} {b : Nat} {x : Vw} (h : VAt w b x) : w.cell? ⟨b, 0, none⟩ = some (.int .u64 (x.id : Int)) ∧ w.cell? ⟨b, 1, none⟩ = some (.slice x.A x.m x.c) ∧ w.cell? ⟨b, 2, none⟩ = some (.slice x.B x.d x.e) ∧ w.cell? ⟨b, 3, none⟩ = some (.slice x.C x.f x.g) :=
  ⟨cell_of_row w b 0 _ _ (0, 0) h, cell_of_row w b 1 _ _ (0, 0) h, cell_of_row w b 2 _ _ (0, 0) h, cell_of_row w b 3 _ _ (0, 0) h⟩
/-- What frees a walk of a Bool's two ways. -/
theorem VwIn.m_le {w : World} {B : Nat} {x : Vw} (h : VwIn w B x) : x.m ≤ maxLen := Nat.le_trans h.mc h.room
end Go.Proofs.Ythloamhodapmpaa
