import Derived.Test.YtjmkecaljkcoiaaGreatDoorQMsg7
namespace Go.Proofs.YtjmkecaljkcoiaaGreatDoor
open Go.RowKit Go.Maps
set_option linter.unusedVariables false
set_option linter.unusedSimpArgs false
def letB (k : Int) (c : UInt8) : Bool := decide (c ∈ fldI k)
theorem bits_out {k : Int} {t : Bool} (h : ¬ (1 ≤ k ∧ k ≤ 14)) (i : Nat) : hasF k t i = false := by
  unfold hasF
  rw [show bitsM k t = 0 from by apply Classical.byContradiction; intro hn; exact h (bitsM_some.1 hn)]
  exact Nat.zero_testBit i
theorem let_out {k : Int} (h : ¬ (1 ≤ k ∧ k ≤ 14)) (c : UInt8) : letB k c = false := by
  unfold letB
  rw [fldI_no h]
  simp
structure Lets (k : Int) (t : Bool) : Prop where
  h0 : hasF k t 0 = letB k 119
  h1 : hasF k t 1 = letB k 118
  h2 : hasF k t 2 = letB k 115
  h3 : hasF k t 3 = letB k 98
  h4 : hasF k t 4 = letB k 110
  h5 : hasF k t 5 = letB k 104
  h6 : hasF k t 6 = letB k 112
  h7 : hasF k t 7 = (letB k 112 && t)
  h8 : hasF k t 8 = (letB k 99 || (letB k 112 && t))
  h9 : hasF k t 9 = letB k 86
  h10 : hasF k t 10 = letB k 121
theorem lets (k : Int) (t : Bool) : Lets k t := by
  by_cases h : 1 ≤ k ∧ k ≤ 14
  · rcases fourteen h with rfl | rfl | rfl | rfl | rfl | rfl | rfl | rfl | rfl | rfl | rfl | rfl | rfl | rfl
    all_goals (cases t <;> exact ⟨by decide, by decide, by decide, by decide, by decide, by decide, by decide, by decide, by decide, by decide, by decide⟩)
  · constructor <;> simp only [bits_out h, let_out h, Bool.false_and, Bool.or_false]
theorem fldI_some {k : Int} : fldI k ≠ [] ↔ 1 ≤ k ∧ k ≤ 14 := by
  constructor
  · intro h
    apply Classical.byContradiction
    intro hn
    exact h (fldI_no hn)
  · intro h
    rcases fourteen h with rfl | rfl | rfl | rfl | rfl | rfl | rfl | rfl | rfl | rfl | rfl | rfl | rfl | rfl <;> decide
def bad2 (m : Ms) : Prop := fldI m.kind = [] ∨ 4611686018427387904 < m.view ∨ 4611686018427387904 < m.slot ∨ 4611686018427387904 < m.num ∨ m.hops < 0 ∨ 4 < m.hops ∨ 200 < m.d.length
def bad4 (m : Ms) : Prop := (letB m.kind 119 = true ∧ mayP m.who = false) ∨ (letB m.kind 119 = false ∧ m.who ≠ default)
def bad6 (m : Ms) : Prop := (letB m.kind 118 = false ∧ m.view ≠ 0) ∨ (letB m.kind 115 = false ∧ m.slot ≠ 0) ∨ (letB m.kind 110 = false ∧ m.num ≠ 0) ∨ (letB m.kind 104 = false ∧ m.hops ≠ 0) ∨ (letB m.kind 121 = false ∧ m.d ≠ [])
def bad8 (m : Ms) : Prop := (letB m.kind 98 = true ∧ mayP m.b.p = false) ∨ (letB m.kind 98 = false ∧ m.b ≠ default)
def bad10 (m : Ms) : Prop := (m.has = true ∧ (letB m.kind 112 = false ∨ mayP m.a.p = false)) ∨ (m.has = false ∧ m.a ≠ default)
def badC (m : Ms) : Prop := if m.has || letB m.kind 99 then ¬ MayC m.c else m.c ≠ zC 0 noV
def badV (m : Ms) : Prop := if letB m.kind 86 then ¬ MayV m.v else m.v ≠ noV
theorem may_ref (m : Ms) : MayM m ↔ ¬ bad2 m ∧ ¬ bad4 m ∧ ¬ bad6 m ∧ ¬ bad8 m ∧ ¬ bad10 m ∧ ¬ badC m ∧ ¬ badV m := by
  have L := lets m.kind m.has
  have e0 := L.h0; have e1 := L.h1; have e2 := L.h2; have e3 := L.h3; have e4 := L.h4; have e5 := L.h5; have e6 := L.h6; have e7 := L.h7; have e8 := L.h8; have e9 := L.h9; have e10 := L.h10
  constructor
  · intro h
    have E := fun i hi => h.each i hi
    have E0 := E 0 (by decide); have E1 := E 1 (by decide); have E2 := E 2 (by decide); have E3 := E 3 (by decide); have E4 := E 4 (by decide); have E5 := E 5 (by decide)
    have E6 := E 6 (by decide); have E7 := E 7 (by decide); have E8 := E 8 (by decide); have E9 := E 9 (by decide); have E10 := E 10 (by decide)
    have K := fldI_some.2 h.kind
    rw [e0] at E0; rw [e1] at E1; rw [e2] at E2; rw [e3] at E3; rw [e4] at E4; rw [e5] at E5; rw [e6] at E6; rw [e7] at E7; rw [e8] at E8; rw [e9] at E9; rw [e10] at E10
    simp only [rightF, zeroF] at E0 E1 E2 E3 E4 E5 E6 E7 E8 E9 E10
    refine ⟨?_, ?_, ?_, ?_, ?_, ?_, ?_⟩
    · rintro (h | h | h | h | h | h | h)
      · exact K h
      · cases hb : letB m.kind 118
        · have := E1.2 hb; omega
        · have := E1.1 hb; omega
      · cases hb : letB m.kind 115
        · have := E2.2 hb; omega
        · have := E2.1 hb; omega
      · cases hb : letB m.kind 110
        · have := E4.2 hb; omega
        · have := E4.1 hb; omega
      · cases hb : letB m.kind 104
        · have := E5.2 hb; omega
        · have := E5.1 hb; omega
      · cases hb : letB m.kind 104
        · have := E5.2 hb; omega
        · have := E5.1 hb; omega
      · cases hb : letB m.kind 121
        · have := E10.2 hb; rw [this] at h; simp at h
        · have := E10.1 hb; omega
    · rintro (⟨h, h'⟩ | ⟨h, h'⟩)
      · rw [E0.1 h] at h'; cases h'
      · exact h' (E0.2 h)
    · rintro (⟨h, h'⟩ | ⟨h, h'⟩ | ⟨h, h'⟩ | ⟨h, h'⟩ | ⟨h, h'⟩)
      · exact h' (E1.2 h)
      · exact h' (E2.2 h)
      · exact h' (E4.2 h)
      · exact h' (E5.2 h)
      · exact h' (E10.2 h)
    · rintro (⟨h, h'⟩ | ⟨h, h'⟩)
      · rw [E3.1 h] at h'; cases h'
      · exact h' (E3.2 h)
    · rintro (⟨h, h' | h'⟩ | ⟨h, h'⟩)
      · rw [E6.2 h'] at h; cases h
      · cases hp : letB m.kind 112
        · rw [E6.2 hp] at h; cases h
        · rw [E7.1 (by rw [hp, h]; rfl)] at h'; cases h'
      · exact h' (E7.2 (by rw [h]; simp))
    · unfold badC
      cases hh : m.has
      · rw [hh] at E8
        cases hc : letB m.kind 99
        · rw [hc] at E8; simp only [Bool.false_or, Bool.false_eq_true, if_false, ne_eq, Classical.not_not]
          exact E8.2 (by simp)
        · simp only [Bool.false_or, if_true, Classical.not_not]
          exact E8.1 (by rw [hc]; rfl)
      · simp only [Bool.true_or, if_true, Classical.not_not]
        cases hp : letB m.kind 112
        · rw [E6.2 hp] at hh; cases hh
        · exact E8.1 (by rw [hp, hh]; simp)
    · unfold badV
      cases hb : letB m.kind 86
      · simp only [Bool.false_eq_true, if_false, ne_eq, Classical.not_not]; exact E9.2 hb
      · simp only [if_true, Classical.not_not]; exact E9.1 hb
  · rintro ⟨b2, b4, b6, b8, b10, bC, bV⟩
    refine ⟨bitsM_some.2 (fldI_some.1 (fun e => b2 (.inl e))), fun i hi => ?_⟩
    have n2 : ¬ 4611686018427387904 < m.view := fun e => b2 (.inr (.inl e))
    have n3 : ¬ 4611686018427387904 < m.slot := fun e => b2 (.inr (.inr (.inl e)))
    have n4 : ¬ 4611686018427387904 < m.num := fun e => b2 (.inr (.inr (.inr (.inl e))))
    have n5 : ¬ m.hops < 0 := fun e => b2 (.inr (.inr (.inr (.inr (.inl e)))))
    have n6 : ¬ 4 < m.hops := fun e => b2 (.inr (.inr (.inr (.inr (.inr (.inl e))))))
    have n7 : ¬ 200 < m.d.length := fun e => b2 (.inr (.inr (.inr (.inr (.inr (.inr e))))))
    have BN : ∀ {b : Bool}, ¬ b = false → b = true := fun {b} h => by cases b; exact absurd rfl h; rfl
    rcases lt11 hi with rfl | rfl | rfl | rfl | rfl | rfl | rfl | rfl | rfl | rfl | rfl
    · rw [e0]; exact ⟨fun h => BN fun e => b4 (.inl ⟨h, e⟩), fun h => Classical.byContradiction fun e => b4 (.inr ⟨h, e⟩)⟩
    · rw [e1]; exact ⟨fun h => Nat.le_of_not_lt n2, fun h => Classical.byContradiction fun e => b6 (.inl ⟨h, e⟩)⟩
    · rw [e2]; exact ⟨fun h => Nat.le_of_not_lt n3, fun h => Classical.byContradiction fun e => b6 (.inr (.inl ⟨h, e⟩))⟩
    · rw [e3]; exact ⟨fun h => BN fun e => b8 (.inl ⟨h, e⟩), fun h => Classical.byContradiction fun e => b8 (.inr ⟨h, e⟩)⟩
    · rw [e4]; exact ⟨fun h => Nat.le_of_not_lt n4, fun h => Classical.byContradiction fun e => b6 (.inr (.inr (.inl ⟨h, e⟩)))⟩
    · rw [e5]; exact ⟨fun h => ⟨by omega, by omega⟩, fun h => Classical.byContradiction fun e => b6 (.inr (.inr (.inr (.inl ⟨h, e⟩))))⟩
    · rw [e6]; exact ⟨fun _ => trivial, fun h => by
        cases hh : m.has
        · exact hh
        · exact absurd (.inl ⟨hh, .inl h⟩) b10⟩
    · rw [e7]
      refine ⟨fun h => ?_, fun h => ?_⟩
      · rw [Bool.and_eq_true] at h
        exact BN fun e => b10 (.inl ⟨h.2, .inr e⟩)
      · cases hh : m.has
        · exact Classical.byContradiction fun e => b10 (.inr ⟨hh, e⟩)
        · rw [hh, Bool.and_true] at h
          exact absurd (.inl ⟨hh, .inl h⟩) b10
    · rw [e8]
      unfold badC at bC
      refine ⟨fun h => ?_, fun h => ?_⟩
      · have : (m.has || letB m.kind 99) = true := by
          cases hc : letB m.kind 99
          · rw [hc, Bool.false_or, Bool.and_eq_true] at h; rw [h.2]; rfl
          · simp
        rw [if_pos this] at bC
        exact Classical.not_not.1 bC
      · rw [Bool.or_eq_false_iff] at h
        cases hh : m.has
        · rw [if_neg (by rw [hh, h.1]; simp)] at bC
          exact Classical.not_not.1 bC
        · rw [hh, Bool.and_true] at h
          exact absurd (.inl ⟨hh, .inl h.2⟩) b10
    · rw [e9]
      unfold badV at bV
      refine ⟨fun h => ?_, fun h => ?_⟩
      · rw [if_pos h] at bV; exact Classical.not_not.1 bV
      · rw [if_neg (by rw [h]; simp)] at bV; exact Classical.not_not.1 bV
    · rw [e10]; exact ⟨fun h => Nat.le_of_not_lt n7, fun h => Classical.byContradiction fun e => b6 (.inr (.inr (.inr (.inr ⟨h, e⟩))))⟩
theorem pats6 {k : Int} (h : fldI k ≠ []) : (letB k 118 = true ∧ letB k 115 = false ∧ letB k 110 = true ∧ letB k 104 = true ∧ letB k 121 = true) ∨ (letB k 118 = false ∧ letB k 115 = true ∧ letB k 110 = false ∧ letB k 104 = true ∧ letB k 121 = false) ∨ (letB k 118 = false ∧ letB k 115 = true ∧ letB k 110 = false ∧ letB k 104 = false ∧ letB k 121 = false) ∨ (letB k 118 = true ∧ letB k 115 = false ∧ letB k 110 = false ∧ letB k 104 = true ∧ letB k 121 = false) ∨ (letB k 118 = true ∧ letB k 115 = false ∧ letB k 110 = true ∧ letB k 104 = true ∧ letB k 121 = false) ∨ (letB k 118 = false ∧ letB k 115 = false ∧ letB k 110 = false ∧ letB k 104 = true ∧ letB k 121 = false) ∨ (letB k 118 = false ∧ letB k 115 = true ∧ letB k 110 = false ∧ letB k 104 = false ∧ letB k 121 = true) ∨ (letB k 118 = true ∧ letB k 115 = false ∧ letB k 110 = false ∧ letB k 104 = false ∧ letB k 121 = false) := by
  rcases fourteen (fldI_some.1 h) with rfl | rfl | rfl | rfl | rfl | rfl | rfl | rfl | rfl | rfl | rfl | rfl | rfl | rfl <;> decide
end Go.Proofs.YtjmkecaljkcoiaaGreatDoor
