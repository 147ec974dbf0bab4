/-
  A process's bytes: what is read of what was laid.
-/
import Derived.Test.YtdmihbicpjmgjaaQPid3
namespace Go.Proofs.Ytdmihbicpjmgjaa
open Go.RowKit
set_option linter.unusedVariables false

theorem pidG_bds (l : List UInt8) : (pidG l).1 < 65536 ∧ (pidG l).2.1 < 4294967296 ∧ (pidG l).2.2.1 ≤ l.length ∧ (pidG l).2.2.2 ≤ 5 := by
  have h1 := getF_bds l
  have h2 := getF_bds (l.drop (getF l).2.1)
  by_cases a1 : (getF l).2.2 = 0
  · by_cases a2 : (getF (l.drop (getF l).2.1)).2.2 = 0
    · by_cases a3 : (getF l).1 < 65536 ∧ (getF (l.drop (getF l).2.1)).1 < 4294967296
      · rw [pidG_4 a1 a2 a3]
        refine ⟨a3.1, a3.2, ?_, Nat.zero_le _⟩
        show (getF l).2.1 + (getF (l.drop (getF l).2.1)).2.1 ≤ l.length
        have := h2.2.1
        rw [List.length_drop] at this
        omega
      · rw [pidG_3 a1 a2 a3]; exact ⟨by decide, by decide, Nat.zero_le _, show 5 ≤ 5 by decide⟩
    · rw [pidG_2 a1 a2]; exact ⟨show 0 < 65536 by decide, show 0 < 4294967296 by decide, Nat.zero_le _, h2.2.2.2⟩
  · rw [pidG_1 a1]; exact ⟨show 0 < 65536 by decide, show 0 < 4294967296 by decide, Nat.zero_le _, h1.2.2.2⟩
/-- A process's bytes are read as it, whatever stands behind. -/
theorem pidG_put (i c : Nat) (t : List UInt8) (hi : i < 65536) (hc : c < 4294967296) : pidG (pidL i c ++ t) = (i, c, (pidL i c).length, 0) := by
  have e1 : getF (pidL i c ++ t) = (i, (shortL i).length, 0) := by
    rw [pidL, List.append_assoc]; exact getF_short i _ (by omega)
  have e2 : (pidL i c ++ t).drop (shortL i).length = shortL c ++ t := by
    rw [pidL, List.append_assoc]; simp
  have e3 : getF (shortL c ++ t) = (c, (shortL c).length, 0) := getF_short c _ (by omega)
  have h := pidG_4 (l := pidL i c ++ t)
  rw [e1] at h
  simp only at h
  rw [e2, e3] at h
  simp only at h
  rw [h trivial trivial ⟨hi, hc⟩]
  simp [pidL]
theorem pidL_len (i c : Nat) : (pidL i c).length ≤ 20 := by
  rw [pidL, List.length_append]; have := (shortL_len i).2; have := (shortL_len c).2; omega
theorem pidL_len2 (i c : Nat) : 2 ≤ (pidL i c).length := by
  rw [pidL, List.length_append]; have := (shortL_len i).1; have := (shortL_len c).1; omega
end Go.Proofs.Ytdmihbicpjmgjaa
