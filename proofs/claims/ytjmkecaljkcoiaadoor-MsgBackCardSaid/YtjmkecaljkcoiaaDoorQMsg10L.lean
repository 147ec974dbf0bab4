import Derived.Test.YtjmkecaljkcoiaaDoorQMsg10M
namespace Go.Proofs.YtjmkecaljkcoiaaDoor
open Go.RowKit
set_option linter.unusedVariables false
theorem prdR_len : ∀ (n : Nat) (l : List UInt8), (prd n l).2.1.length ≤ l.length
  | 0, l => Nat.le_refl _
  | n + 1, l => by
    rw [prd]
    split
    · have := prdR_len n (l.drop (pidG l).2.2.1)
      simp only [List.length_drop] at this
      exact Nat.le_trans this (by omega)
    · exact Nat.le_refl _
theorem pidsS_len (most : Nat) (s : RS) : (pidsS most s).2.l.length ≤ s.l.length := by
  unfold pidsS
  split
  · split
    · have := prdR_len (getF s.l).1 (s.l.drop (getF s.l).2.1)
      simp only [List.length_drop] at this
      exact Nat.le_trans this (by omega)
    · exact Nat.le_refl _
  · exact Nat.le_refl _
theorem bytS_len (most : Nat) (s : RS) : (bytS most s).2.l.length ≤ s.l.length := by
  unfold bytS
  split
  · split
    · unfold bytR
      simp only [List.length_drop]
      omega
    · exact Nat.le_refl _
  · exact Nat.le_refl _
theorem somR_len (mem : List Pr) : ∀ (n : Nat) (s : RS), (somR mem n s).2.l.length ≤ s.l.length
  | 0, s => Nat.le_refl _
  | n + 1, s => by
    rw [somR]
    have h1 := numS_len (mem.length - 1) s
    split
    · exact Nat.le_trans (somR_len mem n _) h1
    · exact h1
theorem someS_len (mem : List Pr) (s : RS) : (someS mem s).2.l.length ≤ s.l.length := by
  unfold someS
  have h1 := numS_len 24 s
  split
  · exact h1
  · split
    · exact h1
    · exact Nat.le_trans (somR_len mem _ _) h1
theorem lvsR_len (mem : List Pr) : ∀ (n : Nat) (s : RS), (lvsR mem n s).2.l.length ≤ s.l.length
  | 0, s => Nat.le_refl _
  | n + 1, s => by
    rw [lvsR]
    have h1 := someS_len mem s
    split
    · exact Nat.le_trans (lvsR_len mem n _) h1
    · exact h1
theorem partsS_len (s : RS) : (partsS s).2.l.length ≤ s.l.length := by
  unfold partsS
  exact Nat.le_trans (someS_len _ _) (Nat.le_trans (lvsR_len _ _ _) (Nat.le_trans (numS_len _ _) (Nat.le_trans (pidsS_len _ _) (numS_len _ _))))
theorem viewS_len (s : RS) : (viewS s).2.l.length ≤ s.l.length := by
  unfold viewS
  have h1 := partsS_len s
  split
  · split <;> exact h1
  · exact h1
theorem bareS_len (s : RS) : (bareS s).2.l.length ≤ s.l.length := by
  unfold bareS
  have h1 := numS_len 3 s
  split
  · unfold partsC
    exact Nat.le_trans (bytS_len _ _) (Nat.le_trans (numS_len _ _) (Nat.le_trans (numS_len _ _) (Nat.le_trans (pidQ_len _) h1)))
  · split
    · exact Nat.le_trans (viewS_len _) h1
    · exact h1
theorem cmdS_len (s : RS) : (cmdS s).2.l.length ≤ s.l.length := by
  unfold cmdS
  have h1 := bareS_len s
  split
  · split <;> exact h1
  · exact h1
end Go.Proofs.YtjmkecaljkcoiaaDoor
