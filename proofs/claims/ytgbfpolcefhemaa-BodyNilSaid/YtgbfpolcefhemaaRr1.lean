/-
  The document's reader, where something has stopped it: zero values.
-/
import Derived.Test.YtgbfpolcefhemaaRd2
import Derived.LoopN
namespace Go.Proofs.Ytgbfpolcefhemaa
open Go.RowKit
set_option linter.unusedVariables false
set_option linter.unusedSimpArgs false

/-- Block y is the document's Reader without bytes, stopped by 2. -/
abbrev RrAt (w : World) (y : Nat) : Prop := Blk w y #[.slice none 0 0, .int .i64 2] 57
theorem rr_cells {w : World} {y : Nat} (h : RrAt w y) : w.cell? ⟨y, 0, none⟩ = some (.slice none 0 0) ∧ w.cell? ⟨y, 1, none⟩ = some (.int .i64 2) := ⟨h.cell 0, h.cell 1⟩
/-- What is stored is what was there. -/
theorem rr_set {a w : World} {B y : Nat} (hb : Below B a w) (h : RrAt w y) : Below B a (w.setCell ⟨y, 0, none⟩ (.slice none 0 0)) := by
  refine ⟨hb.os, hb.tape, hb.output, by simpa using hb.size, fun k hk => ?_⟩
  by_cases e : k = y
  · subst e
    have h2 := h.set_ 0 (.slice none 0 0)
    exact h2.trans (h.symm.trans (hb.block k hk))
  · exact (Below.heap_setCell w _ _ k e).trans (hb.block k hk)
theorem rr_same {w : World} {y : Nat} (h : RrAt w y) : RrAt (w.setCell ⟨y, 0, none⟩ (.slice none 0 0)) y := h.set_ 0 (.slice none 0 0)
theorem rrnum (y : Nat) (most : Int) (w : World) (h : RrAt w y) :
    Calls Try.prog 55 #[.pointer (some ⟨y, 0, none⟩), .int .u64 most] w fun e w' => e = .returned (.int .u64 0) ∧ w = w' := by
  obtain ⟨f0, f1⟩ := rr_cells h
  clear h
  go_enter Try.func55, Try.ntmps55
  go_wp2
  go_ret
  exact ⟨rfl, rfl⟩
theorem rrtruth (y : Nat) (w : World) (h : RrAt w y) :
    Calls Try.prog 56 #[.pointer (some ⟨y, 0, none⟩)] w fun e w' => e = .returned (.bool false) ∧ w = w' := by
  obtain ⟨f0, f1⟩ := rr_cells h
  clear h
  go_enter Try.func56, Try.ntmps56
  go_wp2
  go_ret
  exact ⟨rfl, rfl⟩
theorem rrpid (y : Nat) (w : World) (h : RrAt w y) :
    Calls Try.prog 57 #[.pointer (some ⟨y, 0, none⟩)] w fun e w' => e = .returned (.agg #[.int .u16 0, .int .u32 0]) ∧ Below w.heap.size w w' := by
  have hb1 : Below w.heap.size w (w.alloc (.cells #[.int .u16 0, .int .u32 0] 34)) := (Below.refl _ _).alloc (Nat.le_refl _) _
  obtain ⟨f0, f1⟩ := rr_cells (h.later hb1)
  clear h
  go_enter Try.func57, Try.ntmps57
  go_wp2
  exact bodyPost_ret (v := .agg #[.int .u16 0, .int .u32 0]) (by simp [results, Try.results57, go_sem]) rfl ⟨rfl, hb1⟩
set_option maxRecDepth 100000 in
theorem rrballot (y : Nat) (w : World) (h : RrAt w y) :
    Calls Try.prog 58 #[.pointer (some ⟨y, 0, none⟩)] w fun e w' => e = .returned (.agg #[.int .u32 0, .int .u16 0, .int .u32 0]) ∧ Below w.heap.size w w' := by
  have hb1 : Below w.heap.size w (w.alloc (.cells #[.int .u32 0, .int .u16 0, .int .u32 0] 36)) := (Below.refl _ _).alloc (Nat.le_refl _) _
  have hlt := h.lt
  have h1 := h.later hb1
  have b1 : Blk (w.alloc (.cells #[.int .u32 0, .int .u16 0, .int .u32 0] 36)) w.heap.size #[.int .u32 0, .int .u16 0, .int .u32 0] 36 := heap_alloc_new w _
  obtain ⟨f0, f1⟩ := rr_cells h1
  have c1 := rrnum y 4294967295 _ h1
  have c2 := fun W h => rrpid y W h
  go_enter Try.func58, Try.ntmps58
  go_wp2_with fail
  refine c1.mono ?_
  rintro e w' ⟨rfl, rfl⟩
  go_wp2_with fail
  refine (c2 _ h1).mono ?_
  rintro e w2 ⟨rfl, hb2⟩
  have h2 := h1.later hb2
  have b2 := b1.later hb2
  have hb12 := hb1.trans (hb2.mono hb1.size)
  have n1 := b2.lt
  have hba : Below w2.heap.size w2 (w2.alloc (.cells #[.int .u16 0, .int .u32 0] 34)) := (Below.refl _ _).alloc (Nat.le_refl _) _
  have hy2 := h2.lt
  have hyn : y ≠ w.heap.size := by omega
  have hb3 := rr_set hb12 h2
  have b3 := b2.other (q := ⟨y, 0, none⟩) (by show y ≠ w.heap.size; omega) (.slice none 0 0)
  obtain ⟨f0, f1⟩ := rr_cells h2
  have gz := h2.frozen 0
  clear c1 c2 hb2 h1 b1 hb1 hba
  have x3 := ((b3.set_ 0 (.int .u32 0)).set_ 1 (.int .u16 0)).set_ 2 (.int .u32 0)
  have x4 := x3.later (w' := (((((w2.setCell ⟨y, 0, none⟩ (.slice none 0 0)).setCell ⟨w.heap.size, 0, none⟩ (.int .u32 0)).setCell ⟨w.heap.size, 1, none⟩ (.int .u16 0)).setCell ⟨w.heap.size, 2, none⟩ (.int .u32 0)).alloc (.cells #[.int .u16 0, .int .u32 0] 34))) ((Below.refl _ _).alloc (Nat.le_refl _) _)
  have hz : Below w.heap.size w (((((w2.setCell ⟨y, 0, none⟩ (.slice none 0 0)).setCell ⟨w.heap.size, 0, none⟩ (.int .u32 0)).setCell ⟨w.heap.size, 1, none⟩ (.int .u16 0)).setCell ⟨w.heap.size, 2, none⟩ (.int .u32 0)).alloc (.cells #[.int .u16 0, .int .u32 0] 34)) := (((hb3.setCell (p := ⟨w.heap.size, 0, none⟩) (Nat.le_refl _) _).setCell (p := ⟨w.heap.size, 1, none⟩) (Nat.le_refl _) _).setCell (p := ⟨w.heap.size, 2, none⟩) (Nat.le_refl _) _).alloc (by simp; exact hb12.size) _
  have gc0 := b2.cell 0
  have gc1 := b2.cell 1
  have gc2 := b2.cell 2
  have gz0 := b2.frozen 0
  have gz1 := b2.frozen 1
  have gz2 := b2.frozen 2
  simp only [List.getElem?_toArray, List.getElem?_cons_zero, List.getElem?_cons_succ] at gc0 gc1 gc2
  clear x3 b3 hb3
  go_wp2
  generalize (((((w2.setCell ⟨y, 0, none⟩ (.slice none 0 0)).setCell ⟨w.heap.size, 0, none⟩ (.int .u32 0)).setCell ⟨w.heap.size, 1, none⟩ (.int .u16 0)).setCell ⟨w.heap.size, 2, none⟩ (.int .u32 0)).alloc (.cells #[.int .u16 0, .int .u32 0] 34)) = W at x4 hz ⊢
  have c0 : W.cell? ⟨w.heap.size, 0, none⟩ = some (.int .u32 0) := x4.cell 0
  have c1 : W.cell? ⟨w.heap.size, 1, none⟩ = some (.int .u16 0) := x4.cell 1
  have c2 : W.cell? ⟨w.heap.size, 2, none⟩ = some (.int .u32 0) := x4.cell 2
  exact bodyPost_ret (v := .agg #[.int .u32 0, .int .u16 0, .int .u32 0]) (by simp [results, Try.results58, go_sem, c0, c1, c2]) rfl ⟨rfl, hz⟩
set_option maxRecDepth 100000 in
theorem rrbytes (y : Nat) (most : Int) (w : World) (h : RrAt w y) (h0 : -9223372036854775808 ≤ most) (hm : most ≤ 9223372036854775807) :
    Calls Try.prog 59 #[.pointer (some ⟨y, 0, none⟩), .int .i64 most] w fun e w' => e = .returned (.slice none 0 0) ∧ Below w.heap.size w w' := by
  obtain ⟨f0, f1⟩ := rr_cells h
  have fz := h.frozen 0
  have c1 := fun m => rrnum y m w h
  have hbz := rr_set (Below.refl w.heap.size w) h
  clear h
  by_cases hk : 0 ≤ most
  · obtain ⟨k, rfl⟩ := Int.eq_ofNat_of_zero_le hk
    have e1 : max ((k : Nat) : Int) 0 = (k : Int) := by omega
    have e2 : IntKind.u64.wrap (k : Int) = (k : Int) := by rw [IntKind.wrap_u64]; omega
    go_enter Try.func59, Try.ntmps59
    go_wp2_with fail
    refine (c1 _).mono ?_
    rintro e w' ⟨rfl, rfl⟩
    clear c1
    go_wp2
    go_ret
    exact ⟨rfl, hbz⟩
  · have e1 : max most 0 = 0 := by omega
    go_enter Try.func59, Try.ntmps59
    go_wp2_with fail
    refine (c1 _).mono ?_
    rintro e w' ⟨rfl, rfl⟩
    clear c1
    go_wp2
    go_ret
    exact ⟨rfl, hbz⟩
set_option maxRecDepth 100000 in
theorem rrpids (y : Nat) (most : Int) (w : World) (h : RrAt w y) (h0 : -9223372036854775808 ≤ most) (hm : most ≤ 9223372036854775807) :
    Calls Try.prog 60 #[.pointer (some ⟨y, 0, none⟩), .int .i64 most] w fun e w' => e = .returned (.slice none 0 0) ∧ Below w.heap.size w w' := by
  obtain ⟨f0, f1⟩ := rr_cells h
  have fz := h.frozen 0
  have c1 := fun m => rrnum y m w h
  have hbz := rr_set (Below.refl w.heap.size w) h
  clear h
  by_cases hk : 0 ≤ most
  · obtain ⟨k, rfl⟩ := Int.eq_ofNat_of_zero_le hk
    have e1 : max ((k : Nat) : Int) 0 = (k : Int) := by omega
    have e2 : IntKind.u64.wrap (k : Int) = (k : Int) := by rw [IntKind.wrap_u64]; omega
    go_enter Try.func60, Try.ntmps60
    go_wp2_with fail
    refine (c1 _).mono ?_
    rintro e w' ⟨rfl, rfl⟩
    clear c1
    go_wp2
    refine wp_loop_rounds 1 ?_
    rw [rounds_succ]
    go_wp2
    go_ret
    exact ⟨rfl, hbz⟩
  · have e1 : max most 0 = 0 := by omega
    go_enter Try.func60, Try.ntmps60
    go_wp2_with fail
    refine (c1 _).mono ?_
    rintro e w' ⟨rfl, rfl⟩
    clear c1
    go_wp2
    refine wp_loop_rounds 1 ?_
    rw [rounds_succ]
    go_wp2
    go_ret
    exact ⟨rfl, hbz⟩
end Go.Proofs.Ytgbfpolcefhemaa
