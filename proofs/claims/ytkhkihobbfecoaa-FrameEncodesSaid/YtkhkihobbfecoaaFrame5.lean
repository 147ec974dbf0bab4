/-
  Frames: the document's example: the contract of 'awake'.
-/
import Derived.Test.YtkhkihobbfecoaaFrame4
namespace Go.Proofs.Ytkhkihobbfecoaa
open Go.RowKit
set_option linter.unusedVariables false
set_option linter.unusedSimpArgs false

theorem example_len : 17 = (frameL 3 1 1 2 1 5 []).length := by rw [frameL_len]; decide
theorem example_take : (frameL 3 1 1 2 1 5 []).take 13 = [86, 83, 1, 3, 0, 0, 0, 17, 1, 1, 2, 1, 5] := by
  have h : bareL 3 1 1 2 1 5 [] = [86, 83, 1, 3, 0, 0, 0, 17, 1, 1, 2, 1, 5] := by decide
  rw [frameL, h]
  exact seal_take rfl
set_option maxRecDepth 100000 in
theorem awake6_any (w : World) :
    Calls Try.prog 8 #[] w fun e w' => e = .returned (.bool true) ∧ Below w.heap.size w w' := by
  go_enter Try.func8, Try.ntmps8
  go_wp2_with fail
  refine (encode_yes 3 1 1 2 1 5 none 0 0 17 [] _ Bs.none_ (by decide) (by decide) (by decide) (by decide) (by decide) (by decide) example_len).mono ?_
  rintro e w1 ⟨A1, c1, rfl, hO, hb⟩
  have hT := hO.bs.take (k := 13) (by decide)
  rw [example_take] at hT
  have hcap := hO.cap
  have hc13 : 13 ≤ c1 := by omega
  clear hO
  go_wp2_with fail
  refine (same_eq _ _ _ _ _ _ _ [86, 83, 1, 3, 0, 0, 0, 17, 1, 1, 2, 1, 5] _ _ _ (hT.alloc (Nat.le_refl _) _) (own_lit w1 w1.heap.size 13 [86, 83, 1, 3, 0, 0, 0, 17, 1, 1, 2, 1, 5] _ rfl rfl (by decide) (Nat.le_refl _)).bs (by decide) rfl).mono ?_
  rintro e w2 ⟨rfl, hd⟩
  have hb2 := (hb.alloc (by first | exact hb.size) (.cells #[.int .u8 86, .int .u8 83, .int .u8 1, .int .u8 3, .int .u8 0, .int .u8 0, .int .u8 0, .int .u8 17, .int .u8 1, .int .u8 1, .int .u8 2, .int .u8 1, .int .u8 5] 5)).trans (drawn_below hd)
  clear hd hb hT
  go_wp2
  go_ret
  exact ⟨rfl, hb2⟩
end Go.Proofs.Ytkhkihobbfecoaa
