/-
  The document's examples of layer 1: the contract of 'awake'.
-/
import Derived.Test.YtapnlclcphcbfaaPut1
namespace Go.Proofs.Ytapnlclcphcbfaa
open Go.RowKit
set_option linter.unusedVariables false

theorem awake_any (w : World) :
    Calls Try.prog 13 #[] w fun e w' => e = .returned (.bool true) ∧ Below w.heap.size w w' := by
  go_enter Try.func13, Try.ntmps13
  go_wp2_with fail
  refine (put_any none 0 0 [] 0 258 2 _ Bs.none_ (Nat.zero_le _) (by decide) (by decide) (by decide)).mono ?_
  rintro e w1 ⟨rfl, hown, hb, hlt⟩
  have e1 : ([] : List UInt8) ++ formL 258 2 = [1, 2] := by decide
  rw [e1] at hown
  clear e1
  go_wp2_with fail
  refine (same_eq _ _ _ _ _ _ [1, 2] [1, 2] _ _ _ (hown.alloc _).bs (own_lit w1 0 2 [1, 2] _ (by rfl) rfl (by decide) (Nat.zero_le _)).bs (by decide) rfl).mono ?_
  rintro e w2 ⟨rfl, hd⟩
  have hb2 : Below w.heap.size w w2 := (hb.alloc (by omega) _).trans (drawn_below hd)
  have hlt2 : w.heap.size < w2.heap.size := by rw [drawn_size hd]; simp; omega
  clear hown hd hb hlt
  go_wp2_with fail
  refine (putShort_any none 0 0 [] 0 300 _ Bs.none_ (Nat.zero_le _) (by decide) (by decide)).mono ?_
  rintro e w3 ⟨rfl, hown, hb, hlt⟩
  have e1 : shortL 300 = [172, 2] := by decide
  rw [e1] at hown ⊢
  clear e1
  go_wp2_with fail
  refine (same_eq _ _ _ _ _ _ [172, 2] [172, 2] _ _ _ (hown.alloc _).bs (own_lit w3 0 2 [172, 2] _ (by rfl) rfl (by decide) (Nat.zero_le _)).bs (by decide) rfl).mono ?_
  rintro e w4 ⟨rfl, hd⟩
  have hb4 : Below w.heap.size w w4 := (hb2.trans (hb.mono (by omega))).trans ((Below.alloc (Below.refl _ _) (by omega) _).trans (drawn_below hd))
  clear hown hd hb hlt hb2
  go_wp2_with fail
  refine (zig_any (-1) _ (by decide) (by decide)).mono ?_
  rintro e w5 ⟨rfl, rfl⟩
  rw [show zigF (-1) = 1 from by decide]
  go_wp2_with fail
  refine (turn_any 1 (-1) _ (by decide)).mono ?_
  rintro e w6 ⟨rfl, rfl⟩
  rw [show turnF 1 ((-1 : Int) % 64).toNat = 9223372036854775808 from by decide]
  go_wp2
  go_ret
  exact ⟨rfl, hb4⟩
end Go.Proofs.Ytapnlclcphcbfaa
