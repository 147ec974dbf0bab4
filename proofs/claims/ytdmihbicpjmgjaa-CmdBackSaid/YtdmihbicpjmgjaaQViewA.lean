/-
  Layer 8: the document's example.
-/
import Derived.Test.YtdmihbicpjmgjaaQView6
import Derived.Test.YtdmihbicpjmgjaaQFlow
namespace Go.Proofs.Ytdmihbicpjmgjaa
open Go.RowKit Go.Maps
set_option linter.unusedVariables false
set_option linter.unusedSimpArgs false

/-- A block's cells as a row. -/
theorem es_block {α : Type} {enc : α → List Value} {w : World} {b : Nat} {cs : Array Value} {T : TypeId} {fz : Nat × Nat} {l : List α} (h : w.heap[b]? = some (.cells cs T fz)) (he : cs.toList = ec enc l) {n : Nat} (hn : l.length = n) : Es enc w (b + 1) (some ⟨b, 0, none⟩) n l := by
  refine ⟨hn, fun _ => ⟨_, rfl, Nat.lt_succ_self _, fun j v hv => ?_⟩⟩
  have hadd : (⟨b, 0, none⟩ : Addr).add j = ⟨b, j, none⟩ := by unfold Addr.add; split <;> simp_all
  rw [hadd, cell_of_row _ _ j _ _ _ h]
  rw [← he] at hv
  simpa using hv
def q11 : Pr := ⟨1, 1, by decide, by decide⟩
def q21 : Pr := ⟨2, 1, by decide, by decide⟩
def q31 : Pr := ⟨3, 1, by decide, by decide⟩
def q91 : Pr := ⟨9, 1, by decide, by decide⟩
def smallV : Vi := ⟨1, [q11, q21, q31], [[q11, q31], [q21]], [q11, q21]⟩
/-- Some blocks, one behind the other. -/
def allocs (w : World) : List Obj → World
  | [] => w
  | o :: os => allocs (w.alloc o) os
theorem allocs_below : ∀ (os : List Obj) (w : World), Below w.heap.size w (allocs w os)
  | [], w => Below.refl _ _
  | o :: os, w => ((Below.refl _ w).alloc (Nat.le_refl _) o).trans ((allocs_below os (w.alloc o)).mono (by simp))
theorem allocs_size : ∀ (os : List Obj) (w : World), (allocs w os).heap.size = w.heap.size + os.length
  | [], w => rfl
  | o :: os, w => by rw [allocs, allocs_size os]; simp; omega
theorem allocs_at : ∀ (os : List Obj) (w : World) (i : Nat) (o : Obj), os[i]? = some o → (allocs w os).heap[w.heap.size + i]? = some o
  | [], w, i, o, h => by simp at h
  | p :: os, w, 0, o, h => by
    simp only [List.getElem?_cons_zero, Option.some.injEq] at h
    subst h
    exact ((allocs_below os (w.alloc p)).block _ (by simp)).trans (heap_alloc_new w p)
  | p :: os, w, i + 1, o, h => by
    have := allocs_at os (w.alloc p) i o (by simpa using h)
    rw [World.size_alloc] at this
    rw [allocs, show w.heap.size + (i + 1) = w.heap.size + 1 + i from by omega]
    exact this
/-- What small answers. -/
def SmallP (w : World) (e : Ending) (w' : World) : Prop := ∃ x : Vw, e = .returned (.agg #[.int .u64 (x.id : Int), .slice x.A x.m x.c, .slice x.B x.d x.e, .slice x.C x.f x.g]) ∧ VwIn w' w'.heap.size x ∧ VSmall x ∧ x.v = smallV ∧ Below w.heap.size w w'
/-- Its parts, where the blocks lie from a on. -/
def smallX (a : Nat) : Vw := ⟨1, some ⟨a + 4, 0, none⟩, 3, 3, [q11, q21, q31], some ⟨a + 7, 0, none⟩, 2, 2, [⟨some ⟨a + 5, 0, none⟩, 2, 2, [q11, q31]⟩, ⟨some ⟨a + 6, 0, none⟩, 1, 1, [q21]⟩], some ⟨a + 8, 0, none⟩, 2, 2, [q11, q21]⟩
def smallO (a : Nat) : List Obj := [.cells #[.int .u64 1, .slice (some ⟨a + 4, 0, none⟩) 3 3, .slice (some ⟨a + 7, 0, none⟩) 2 2, .slice (some ⟨a + 8, 0, none⟩) 2 2] 31,
  .cells #[.int .u16 1, .int .u32 1] 25, .cells #[.int .u16 2, .int .u32 1] 25, .cells #[.int .u16 3, .int .u32 1] 25,
  .cells #[.int .u16 1, .int .u32 1, .int .u16 2, .int .u32 1, .int .u16 3, .int .u32 1] 25, .cells #[.int .u16 1, .int .u32 1, .int .u16 3, .int .u32 1] 25, .cells #[.int .u16 2, .int .u32 1] 25,
  .cells #[.slice (some ⟨a + 5, 0, none⟩) 2 2, .slice (some ⟨a + 6, 0, none⟩) 1 1] 28, .cells #[.int .u16 1, .int .u32 1, .int .u16 2, .int .u32 1] 25]
theorem small_in (w : World) : VwIn (allocs w (smallO w.heap.size)) (allocs w (smallO w.heap.size)).heap.size (smallX w.heap.size) := by
  have hz := allocs_size (smallO w.heap.size) w
  rw [show (smallO w.heap.size).length = 9 from rfl] at hz
  have h4 := allocs_at (smallO w.heap.size) w 4 _ rfl
  have h5 := allocs_at (smallO w.heap.size) w 5 _ rfl
  have h6 := allocs_at (smallO w.heap.size) w 6 _ rfl
  have h7 := allocs_at (smallO w.heap.size) w 7 _ rfl
  have h8 := allocs_at (smallO w.heap.size) w 8 _ rfl
  have d3 : (3 : Nat) ≤ maxLen := by decide
  have d2 : (2 : Nat) ≤ maxLen := by decide
  have hle : ∀ i, i < 9 → w.heap.size + i + 1 ≤ (allocs w (smallO w.heap.size)).heap.size := fun i hi => by omega
  have hl : Es lfC (allocs w (smallO w.heap.size)) (w.heap.size + 7 + 1) (some ⟨w.heap.size + 7, 0, none⟩) 2 (smallX w.heap.size).q := es_block h7 rfl rfl
  have hm : Es prC (allocs w (smallO w.heap.size)) (w.heap.size + 4 + 1) (some ⟨w.heap.size + 4, 0, none⟩) 3 (smallX w.heap.size).l := es_block h4 rfl rfl
  have hr : Es prC (allocs w (smallO w.heap.size)) (w.heap.size + 8 + 1) (some ⟨w.heap.size + 8, 0, none⟩) 2 (smallX w.heap.size).r := es_block h8 rfl rfl
  refine ⟨(by decide : (1 : Nat) < 18446744073709551616), hm.more (hle 4 (by omega)), Nat.le_refl 3, d3, hl.more (hle 7 (by omega)), Nat.le_refl 2, d2, fun y hy => ?_, hr.more (hle 8 (by omega)), Nat.le_refl 2, d2⟩
  simp only [smallX, List.mem_cons, List.not_mem_nil, or_false] at hy
  rcases hy with rfl | rfl
  · exact ⟨(es_block h5 rfl rfl).more (hle 5 (by omega)), Nat.le_refl 2, d2⟩
  · exact ⟨(es_block h6 rfl rfl).more (hle 6 (by omega)), Nat.le_refl 1, (by decide : (1 : Nat) ≤ maxLen)⟩
end Go.Proofs.Ytdmihbicpjmgjaa
namespace Go.Proofs.Ytdmihbicpjmgjaa
open Go.RowKit Go.Maps
set_option linter.unusedVariables false
set_option linter.unusedSimpArgs false

/-- A row that is there. -/
def EsV {α : Type} (enc : α → List Value) (n : Nat) (l : List α) (v : Value) (w : World) : Prop := ∃ A c B, v = .slice A n c ∧ Es enc w B A n l ∧ B ≤ w.heap.size
theorem esV_steady {α : Type} {enc : α → List Value} (n : Nat) (l : List α) : Steady (EsV enc n l) := fun v w w' ⟨A, c, B, e, h, hB⟩ hb => ⟨A, c, B, e, h.below (hb.mono hB), Nat.le_trans hB hb.size⟩
theorem small_may : MayV smallV := by
  refine ⟨by decide, by decide, ⟨by decide, by decide, by decide, by decide⟩, ⟨?_, by decide, ?_⟩, by decide, ?_⟩
  · intro l hl
    simp only [smallV, List.mem_cons, List.not_mem_nil, or_false] at hl
    rcases hl with rfl | rfl
    · exact ⟨by decide, by unfold RiseP; decide⟩
    · exact ⟨by decide, by unfold RiseP; decide⟩
  · unfold RiseP; decide
  · unfold RiseP; decide
end Go.Proofs.Ytdmihbicpjmgjaa
namespace Go.Proofs.Ytdmihbicpjmgjaa
open Go.RowKit Go.Maps
set_option linter.unusedVariables false

theorem VAt.mk_ (w : World) (x : Vw) : VAt (w.alloc (.cells #[.int .u64 (x.id : Int), .slice x.A x.m x.c, .slice x.B x.d x.e, .slice x.C x.f x.g] 31)) w.heap.size x := heap_alloc_new w _
theorem VAt.lt {w : World} {b : Nat} {x : Vw} (h : VAt w b x) : b < w.heap.size := (Array.getElem?_eq_some_iff.1 h).1
theorem VAt.later {w w' : World} {b : Nat} {x : Vw} (h : VAt w b x) (hb : Below w.heap.size w w') : VAt w' b x := (hb.block b h.lt).trans h
theorem VAt.alloc {w : World} {b : Nat} {x : Vw} (h : VAt w b x) (o : Obj) : VAt (w.alloc o) b x := h.later ((Below.refl _ _).alloc (Nat.le_refl _) o)
theorem VAt.cells {w : World} {b : Nat} {x : Vw} (h : VAt w b x) : w.cell? ⟨b, 0, none⟩ = some (.int .u64 (x.id : Int)) ∧ w.cell? ⟨b, 1, none⟩ = some (.slice x.A x.m x.c) ∧ w.cell? ⟨b, 2, none⟩ = some (.slice x.B x.d x.e) ∧ w.cell? ⟨b, 3, none⟩ = some (.slice x.C x.f x.g) :=
  ⟨cell_of_row w b 0 _ _ (0, 0) h, cell_of_row w b 1 _ _ (0, 0) h, cell_of_row w b 2 _ _ (0, 0) h, cell_of_row w b 3 _ _ (0, 0) h⟩
/-- What frees a walk of a Bool's two ways. -/
theorem VwIn.m_le {w : World} {B : Nat} {x : Vw} (h : VwIn w B x) : x.m ≤ maxLen := Nat.le_trans h.mc h.room
end Go.Proofs.Ytdmihbicpjmgjaa
