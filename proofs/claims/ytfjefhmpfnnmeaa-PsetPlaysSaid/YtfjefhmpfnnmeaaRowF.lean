/-
  The words of a region that builds rows: a literal without elements, an append to it, a row of the call's own.
-/
import Derived.Test.YtfjefhmpfnnmeaaRowE
import Derived.Test.YtfjefhmpfnnmeaaFlowT
namespace Go.Proofs.Ytfjefhmpfnnmeaa
open Go.RowKit
set_option linter.unusedVariables false
set_option linter.unusedSimpArgs false

section
variable {α : Type} {enc : α → List Value} {k : Nat} {T : TypeId}
/-- 'append([]T{}, xs...)': nothing that is old turns. -/
theorem run_append_e0 {P : Program} (w : World) (S ty : TypeId) (i : TypeInfo) (z : Value) (bytes : Nat) (hS : P.underlying S = some (.slice T)) (hi : P.info? T = some i) (hz0 : i.zero = some z) (hz1 : i.size = k) (hz2 : i.bytes = bytes) (hz : z.cells.size = k)
    (H : EncOk enc k) (base g : Nat) (hown : OwnE T enc k w base (.slice (some ⟨g, 0, none⟩) 0 0) 0 ([] : List α))
    (B : Nat) (A : Option Addr) (m c : Nat) (l2 : List α) (hr : Es enc w B A m l2) (b0 : m ≤ maxLen) (b1 : m * bytes ≤ 140737488355328) (hBw : base ≤ w.heap.size) :
    ∃ v' w', (Builtin.append_ #[S, S] ty #[.slice (some ⟨g, 0, none⟩) 0 0, .slice A m c]).run P w = .ok v' w' ∧ OwnE T enc k w' base v' m l2 ∧ Below w.heap.size w w' := by
  by_cases hm : m = 0
  · subst hm
    obtain rfl : l2 = [] := List.eq_nil_of_length_eq_zero hr.len
    refine ⟨.slice (some ⟨g, 0, none⟩) 0 0, w, ?_, hown, Below.refl _ _⟩
    cases A <;> simp [Builtin.append_, run_underlying hS, sizeOf, typeInfo, hi, Builtin.lenOf, Builtin.firstCells, storeCells, loadCells, loadCellsFrom]
  · obtain ⟨v', w', h1, h2, h3, h4⟩ := run_append_e (P := P) w S ty T i z bytes hS hi hz0 hz1 hz2 hz H base 0 _ [] hown B A m c l2 hr (by omega) (by rw [Nat.zero_add]; exact b1) base w (Below.refl _ _) (Nat.le_refl _) hBw
    obtain ⟨ad, rfl, _, hc⟩ := hr.2 (by omega)
    have hrun := run_append_grow (P := P) w S ty T i z hS hi hz0 ⟨g, 0, none⟩ 0 0 [] (by simp) (by simp) ad m c (ec enc l2) (by rw [ec_len H, hr.len, hz1]) hc (by omega) (by unfold maxLen at b0; omega) (growslice_fits (by omega) (by rw [hz2, Nat.zero_add]; exact b1))
    rw [h1] at hrun
    injection hrun with e1 e2
    rw [Nat.zero_add, List.nil_append] at h2
    refine ⟨v', w', h1, h2, ?_⟩
    rw [e2]
    exact ((Below.refl _ w).drew).alloc (Nat.le_refl _) _
/-- A literal without elements. -/
def LitW (T : TypeId) (enc : α → List Value) (k base : Nat) (v : Value) (w : World) : Prop := ∃ g, v = .slice (some ⟨g, 0, none⟩) 0 0 ∧ OwnE T enc k w base (.slice (some ⟨g, 0, none⟩) 0 0) 0 ([] : List α)
theorem litW_steady (base : Nat) : Steady (LitW T enc k base) := fun v w w' ⟨g, e, h⟩ hb => ⟨g, e, h.later hb⟩
theorem litW_made {w : World} {base : Nat} (hb : base ≤ w.heap.size) : LitW T enc k base (.slice (some ⟨w.heap.size, 0, none⟩) 0 0) (w.alloc (.cells #[] T)) :=
  ⟨_, rfl, by simp [ec], .inr ⟨w.heap.size, 0, #[], rfl, hb, heap_alloc_new w _, Nat.le_refl _, by decide, by simp, by simp [ec]⟩⟩
/-- A row of the call's own. -/
def OwnW (T : TypeId) (enc : α → List Value) (k base n : Nat) (l : List α) (v : Value) (w : World) : Prop := OwnE T enc k w base v n l
theorem ownW_steady (base n : Nat) (l : List α) : Steady (OwnW T enc k base n l) := fun v w w' h hb => OwnE.later h hb
/-- A row that is there. -/
def EsW (enc : α → List Value) (n : Nat) (l : List α) (v : Value) (w : World) : Prop := ∃ A c B, v = .slice A n c ∧ Es enc w B A n l ∧ B ≤ w.heap.size
theorem esW_steady (n : Nat) (l : List α) : Steady (EsW enc n l) := fun v w w' ⟨A, c, B, e, h, hB⟩ hb => ⟨A, c, B, e, h.below (hb.mono hB), Nat.le_trans hB hb.size⟩
theorem lit_append {P : Program} {w : World} {S ty : TypeId} {i : TypeInfo} {z : Value} {bytes : Nat} (hS : P.underlying S = some (.slice T)) (hi : P.info? T = some i) (hz0 : i.zero = some z) (hz1 : i.size = k) (hz2 : i.bytes = bytes) (hz : z.cells.size = k)
    (H : EncOk enc k) {base m : Nat} {l2 : List α} {u v : Value} (hu : LitW T enc k base u w) (hv : EsW enc m l2 v w) (b0 : m ≤ maxLen) (b1 : m * bytes ≤ 140737488355328) (hBw : base ≤ w.heap.size) :
    ∃ v' w', (Builtin.append_ #[S, S] ty #[u, v]).run P w = .ok v' w' ∧ OwnW T enc k base m l2 v' w' ∧ Below w.heap.size w w' := by
  obtain ⟨g, rfl, ho⟩ := hu
  obtain ⟨A, c, B, rfl, he, _⟩ := hv
  exact run_append_e0 w S ty i z bytes hS hi hz0 hz1 hz2 hz H base g ho B A m c l2 he b0 b1 hBw
end
end Go.Proofs.Ytfjefhmpfnnmeaa
