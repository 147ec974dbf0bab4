/-
  The document's example of layer 3: the contract of 'awake'.
-/
import Derived.Test.YtcnnpbeadldflaaDoorPid1
import Derived.Deep.QuietTactic
import Derived.BigQuiet
import Derived.WalkSpells
namespace Go.Proofs.YtcnnpbeadldflaaDoor
open Go.RowKit
set_option linter.unusedVariables false
set_option linter.unusedSimpArgs false

theorem small3 (w : World) : Calls Tryd.prog 51 #[.int .i64 3] w fun e w' => e = .returned (.string ⟨#[51]⟩) ∧ w = w' := by
  go_enter Tryd.func51, Tryd.ntmps51
  go_wp2
  go_ret
  exact ⟨rfl, rfl⟩
theorem small1 (w : World) : Calls Tryd.prog 51 #[.int .i64 1] w fun e w' => e = .returned (.string ⟨#[49]⟩) ∧ w = w' := by
  go_enter Tryd.func51, Tryd.ntmps51
  go_wp2
  go_ret
  exact ⟨rfl, rfl⟩
theorem ifmt3 (w : World) : Calls Tryd.prog 43 #[.int .u64 3, .int .i64 10] w fun e w' => e = .returned (.string ⟨#[51]⟩) ∧ w = w' := by
  go_enter Tryd.func43, Tryd.ntmps43
  go_wp2_with fail
  refine (small3 _).mono ?_
  rintro e w' ⟨rfl, rfl⟩
  go_wp2
  go_ret
  exact ⟨rfl, rfl⟩
theorem fmt3 (w : World) : Calls Tryd.prog 29 #[.int .u64 3, .int .i64 10] w fun e w' => e = .returned (.string ⟨#[51]⟩) ∧ w = w' := by
  go_enter Tryd.func29, Tryd.ntmps29
  go_wp2_with fail
  refine (ifmt3 _).mono ?_
  rintro e w' ⟨rfl, rfl⟩
  go_wp2
  go_ret
  exact ⟨rfl, rfl⟩
theorem ifmt1 (w : World) : Calls Tryd.prog 43 #[.int .u64 1, .int .i64 10] w fun e w' => e = .returned (.string ⟨#[49]⟩) ∧ w = w' := by
  go_enter Tryd.func43, Tryd.ntmps43
  go_wp2_with fail
  refine (small1 _).mono ?_
  rintro e w' ⟨rfl, rfl⟩
  go_wp2
  go_ret
  exact ⟨rfl, rfl⟩
theorem fmt1 (w : World) : Calls Tryd.prog 29 #[.int .u64 1, .int .i64 10] w fun e w' => e = .returned (.string ⟨#[49]⟩) ∧ w = w' := by
  go_enter Tryd.func29, Tryd.ntmps29
  go_wp2_with fail
  refine (ifmt1 _).mono ?_
  rintro e w' ⟨rfl, rfl⟩
  go_wp2
  go_ret
  exact ⟨rfl, rfl⟩
theorem print31 (w : World) : Calls Tryd.prog 14 #[.agg #[.int .u16 3, .int .u32 1]] w fun e w' => e = .returned (.string ⟨#[51, 46, 49]⟩) ∧ Below w.heap.size w w' := by
  go_enter Tryd.func14, Tryd.ntmps14
  go_wp2
  have f0 : (w.alloc (.cells #[.int .u16 3, .int .u32 1] 25)).cell? ⟨w.heap.size, 0, none⟩ = some (.int .u16 3) := by go_simp
  have f1 : (w.alloc (.cells #[.int .u16 3, .int .u32 1] 25)).cell? ⟨w.heap.size, 1, none⟩ = some (.int .u32 1) := by go_simp
  have hb : Below w.heap.size w (w.alloc (.cells #[.int .u16 3, .int .u32 1] 25)) := ((Below.refl _ _).alloc (Nat.le_refl _) _)
  generalize (w.alloc (.cells #[.int .u16 3, .int .u32 1] 25)) = w1 at f0 f1 hb ⊢
  have g0 := Later.cell f0
  have g1 := Later.cell f1
  clear f0 f1
  have k1 := fun x : Later w1 => calm_same (fmt3 x.w)
  have k2 := fun x : Later w1 => calm_same (fmt1 x.w)
  refine wp_region_calm (by kernel_rfl) (by kernel_rfl) ?_
  repeat (go_big_quiet_step ((go_at_call 29; first | with_reducible exact k1 _ | with_reducible exact k2 _)))
  refine wpQuiet_nil ?_
  rintro _ ⟨x9, rfl⟩
  have hb9 := x9.below
  generalize x9.w = w9 at hb9 ⊢
  go_wp2
  go_ret
  exact ⟨rfl, hb.trans (hb9.mono hb.size)⟩
theorem awake3_any (w : World) :
    Calls Tryd.prog 13 #[] w fun e w' => e = .returned (.bool true) ∧ Below w.heap.size w w' := by
  have c1 := fun W => number_any 3 1 W (by decide) (by decide)
  have c2 := fun W => ahead_any 3 1 3 2 W (by decide) (by decide) (by decide) (by decide)
  have c3 := fun W => ahead_any 4 1 3 1 W (by decide) (by decide) (by decide) (by decide)
  rw [show aheadB 3 1 3 2 = true from by decide] at c2
  rw [show aheadB 4 1 3 1 = false from by decide] at c3
  go_enter Tryd.func13, Tryd.ntmps13
  go_wp2_with fail
  refine (c1 _).mono ?_
  rintro e w1 ⟨rfl, hb1⟩
  have hs1 := hb1.size
  have f0 : w1.cell? ⟨w.heap.size, 0, none⟩ = some (.int .u16 3) := (hb1.cell (by simp)).trans (by go_simp)
  have f1 : w1.cell? ⟨w.heap.size, 1, none⟩ = some (.int .u32 1) := (hb1.cell (by simp)).trans (by go_simp)
  simp only [World.size_alloc] at hs1
  have hb : Below w.heap.size w w1 := ((Below.refl _ _).alloc (Nat.le_refl _) _).trans (hb1.mono (by simp))
  clear hb1 c1
  go_wp2_with fail
  refine (print31 _).mono ?_
  rintro e w2 ⟨rfl, hb2⟩
  have g0 : w2.cell? ⟨w.heap.size, 0, none⟩ = some (.int .u16 3) := (hb2.cell (by show w.heap.size < _; omega)).trans f0
  have g1 : w2.cell? ⟨w.heap.size, 1, none⟩ = some (.int .u32 1) := (hb2.cell (by show w.heap.size < _; omega)).trans f1
  have hs2 := hb2.size
  have hb' : Below w.heap.size w w2 := hb.trans (hb2.mono hb.size)
  clear hb2 f0 f1 hb
  go_wp2_with fail
  refine (c2 _).mono ?_
  rintro e w3 ⟨rfl, hb3⟩
  have f0 : w3.cell? ⟨w.heap.size, 0, none⟩ = some (.int .u16 3) := (hb3.cell (by show w.heap.size < _; omega)).trans g0
  have f1 : w3.cell? ⟨w.heap.size, 1, none⟩ = some (.int .u32 1) := (hb3.cell (by show w.heap.size < _; omega)).trans g1
  have hb : Below w.heap.size w w3 := hb'.trans (hb3.mono hb'.size)
  clear hb3 g0 g1 hb' c2
  go_wp2_with fail
  refine (c3 _).mono ?_
  rintro e w4 ⟨rfl, hb4⟩
  have hb' : Below w.heap.size w w4 := hb.trans (hb4.mono hb.size)
  clear hb4 hb c3
  go_wp2
  go_ret
  exact ⟨rfl, hb'⟩
end Go.Proofs.YtcnnpbeadldflaaDoor
