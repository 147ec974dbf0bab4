/-
  Contracts of layer 5: Majority, Of; the document's examples.
-/
import Derived.Test.YtnaegaeicdknbaaMask2
namespace Go.Proofs.Ytnaegaeicdknbaa
open Go.RowKit
set_option linter.unusedVariables false
set_option linter.unusedSimpArgs false

theorem majB_zero (a b : Nat) : majB a b 0 = false := by simp [majB]
set_option maxRecDepth 100000 in
theorem majority_any (a b k : Nat) (w : World) (ha : a < 18446744073709551616) (hb : b < 18446744073709551616) (hk : k ≤ 128) :
    Calls Try.prog 20 #[.agg #[.int .u64 (a : Int), .int .u64 (b : Int)], .int .i64 (k : Int)] w fun e w' => e = .returned (.bool (majB a b k)) ∧ Below w.heap.size w w' := by
  have hbw : Below w.heap.size w (w.alloc (.cells #[.int .u64 (a : Int), .int .u64 (b : Int)] 24)) := (Below.refl _ _).alloc (Nat.le_refl _) _
  rcases Nat.eq_zero_or_pos k with h0 | h0
  · subst h0
    rw [majB_zero]
    go_enter Try.func20, Try.ntmps20
    go_wp2_with fail
    have hd : decide ((1 : Int) ≤ 0) = false := by decide
    refine wp_region_calm (by kernel_rfl) (by kernel_rfl) ?_
    repeat (go_big_quiet_step (fail))
    refine wpQuiet_nil ?_
    rintro _ ⟨x9, rfl⟩
    have hb9 := x9.below
    generalize x9.w = w9 at hb9 ⊢
    go_wp2
    go_ret
    exact ⟨rfl, hbw.trans (hb9.mono hbw.size)⟩
  · have f0 : (w.alloc (.cells #[.int .u64 (a : Int), .int .u64 (b : Int)] 24)).cell? ⟨w.heap.size, 0, none⟩ = some (.int .u64 (a : Int)) := by go_simp
    have f1 : (w.alloc (.cells #[.int .u64 (a : Int), .int .u64 (b : Int)] 24)).cell? ⟨w.heap.size, 1, none⟩ = some (.int .u64 (b : Int)) := by go_simp
    have c1 := fun W => first_any k W hk
    have c2 := fun W => mand_any a b (fstA k) (fstB k) W ha hb (fst_lt (by omega)) (fst_lt (by omega))
    have c3 := fun W => count_any (a &&& fstA k) (b &&& fstB k) W (and_lt64 _ ha) (and_lt64 _ hb)
    have e : majB a b k = decide (k < 2 * popM (a &&& fstA k) (b &&& fstB k)) := by unfold majB; rw [decide_eq_true (by omega), Bool.true_and]
    rw [e]
    clear e
    have hp := popM_le (a &&& fstA k) (b &&& fstB k)
    generalize popM (a &&& fstA k) (b &&& fstB k) = p at *
    generalize a &&& fstA k = x at *
    generalize b &&& fstB k = y at *
    generalize fstA k = fa at *
    generalize fstB k = fb at *
    have hd : decide ((1 : Int) ≤ (k : Int)) = true := decide_eq_true (by omega)
    go_enter Try.func20, Try.ntmps20
    go_wp2_with fail
    generalize (w.alloc (.cells #[.int .u64 (a : Int), .int .u64 (b : Int)] 24)) = w1 at f0 f1 hbw ⊢
    have g0 := Later.cell f0
    have g1 := Later.cell f1
    clear f0 f1
    refine wp_region_calm (by kernel_rfl) (by kernel_rfl) ?_
    have k1 := fun x : Later w1 => calm_of (c1 x.w)
    have k2 := fun x : Later w1 => calm_of (c2 x.w)
    have k3 := fun x : Later w1 => calm_of (c3 x.w)
    clear c1 c2 c3
    repeat (go_big_quiet_step (first | (go_at_call 22; with_reducible exact k1 _) | (go_at_call 21; with_reducible exact k2 _) | (go_at_call 17; with_reducible exact k3 _)))
    refine wpQuiet_nil ?_
    rintro _ ⟨x9, rfl⟩
    have hb9 := x9.below
    generalize x9.w = w9 at hb9 ⊢
    go_wp2
    go_ret
    exact ⟨ret_bool (by apply decide_eq_decide.2; omega), hbw.trans (hb9.mono hbw.size)⟩
end Go.Proofs.Ytnaegaeicdknbaa
