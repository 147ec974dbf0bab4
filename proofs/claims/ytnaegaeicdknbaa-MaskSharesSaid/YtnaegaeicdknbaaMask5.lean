/-
  Layer 5: the document's examples.
-/
import Derived.Test.YtnaegaeicdknbaaMaskE
namespace Go.Proofs.Ytnaegaeicdknbaa
open Go.RowKit
set_option linter.unusedVariables false
set_option linter.unusedSimpArgs false

theorem es_two (w : World) (x y : Int) (T : TypeId) : Es inC (w.alloc (.cells #[.int .i64 x, .int .i64 y] T)) (w.heap.size + 1) (some ⟨w.heap.size, 0, none⟩) 2 [x, y] := by
  refine ⟨rfl, fun _ => ⟨_, rfl, by simp, fun j v hv => ?_⟩⟩
  have e : ec inC [x, y] = [.int .i64 x, .int .i64 y] := rfl
  rw [e] at hv
  have hadd : (⟨w.heap.size, 0, none⟩ : Addr).add j = ⟨w.heap.size, j, none⟩ := by unfold Addr.add; split <;> simp_all
  rw [hadd, cell_of_row _ _ j _ _ _ (heap_alloc_new w _)]
  simpa using hv
theorem lo_064 : loM (ofP [0, 64]) = 1 ∧ hiM (ofP [0, 64]) = 1 := by decide +kernel
theorem lo_01 : loM (ofP [0, 1]) = 3 ∧ hiM (ofP [0, 1]) = 0 := by decide +kernel
theorem maj_3 : majB 3 0 3 = true := by decide +kernel
theorem maj_4 : majB 3 0 4 = false := by decide +kernel
set_option maxRecDepth 100000 in
theorem awake5_any (w : World) :
    Calls Try.prog 15 #[] w fun e w' => e = .returned (.bool true) ∧ Below w.heap.size w w' := by
  have c1 := fun W T => of_any (some ⟨W.heap.size, 0, none⟩) 2 2 [0, 64] (W.heap.size + 1) _ (es_two W 0 64 T) (by simp) (by decide)
  have c2 := fun W T => of_any (some ⟨W.heap.size, 0, none⟩) 2 2 [0, 1] (W.heap.size + 1) _ (es_two W 0 1 T) (by simp) (by decide)
  rw [lo_064.1, lo_064.2] at c1
  rw [lo_01.1, lo_01.2] at c2
  have c3 := fun W => majority_any 3 0 3 W (by decide) (by decide) (by decide)
  have c4 := fun W => majority_any 3 0 4 W (by decide) (by decide) (by decide)
  rw [maj_3] at c3
  rw [maj_4] at c4
  have b1 : ∀ W : World, ∀ o, Below W.heap.size W (W.alloc o) := fun W o => (Below.refl _ _).alloc (Nat.le_refl _) _
  have q1 : ∀ w, (Op.equalIn 10000 24 (.agg #[.int .u64 1, .int .u64 1]) (.agg #[.int .u64 1, .int .u64 1])).run Try.prog w = .ok true w := mask_self 1 1 (by decide) (by decide)
  go_enter Try.func15, Try.ntmps15
  go_wp2_with fail
  refine (c1 _ _).mono ?_
  rintro e w1 ⟨rfl, hb⟩
  have hb1 : Below w.heap.size w w1 := (b1 _ _).trans (hb.mono (b1 w _).size)
  clear hb
  go_wp2_with fail
  refine (c2 _ _).mono ?_
  rintro e w2 ⟨rfl, hb⟩
  have hb2 : Below w.heap.size w w2 := hb1.trans (((b1 _ _).trans (hb.mono (b1 w1 _).size)).mono hb1.size)
  clear hb hb1
  go_wp2_with fail
  refine (c3 _).mono ?_
  rintro e w3 ⟨rfl, hb⟩
  have hb3 := hb2.trans (hb.mono hb2.size)
  clear hb hb2
  go_wp2_with fail
  refine (c2 _ _).mono ?_
  rintro e w4 ⟨rfl, hb⟩
  have hb4 : Below w.heap.size w w4 := hb3.trans (((b1 _ _).trans (hb.mono (b1 w3 _).size)).mono hb3.size)
  clear hb hb3
  go_wp2_with fail
  refine (c4 _).mono ?_
  rintro e w5 ⟨rfl, hb⟩
  have hb5 := hb4.trans (hb.mono hb4.size)
  clear hb hb4
  go_wp2
  go_ret
  exact ⟨rfl, hb5⟩
end Go.Proofs.Ytnaegaeicdknbaa
