/-
  Frames: the contracts of Same, the program's and the document's.
-/
import Derived.Test.YtkhkihobbfecoaaFrameE
namespace Go.Proofs.Ytkhkihobbfecoaa
open Go.RowKit
set_option linter.unusedVariables false
set_option linter.unusedSimpArgs false

/-- Are two packets the same? -/
def sameQ (k : Int) (i c j d s : Nat) (l : List UInt8) (k' : Int) (i' c' j' d' s' : Nat) (l' : List UInt8) : Bool := decide (k = k' ∧ i = i' ∧ c = c' ∧ j = j' ∧ d = d' ∧ s = s' ∧ l = l')
theorem sameQ_no {k k' : Int} {i c j d s i' c' j' d' s' : Nat} {l l' : List UInt8} (h : ¬ (k = k' ∧ i = i' ∧ c = c' ∧ j = j' ∧ d = d' ∧ s = s')) : sameQ k i c j d s l k' i' c' j' d' s' l' = false :=
  decide_eq_false fun ⟨h1, h2, h3, h4, h5, h6, _⟩ => h ⟨h1, h2, h3, h4, h5, h6⟩
theorem sameQ_body (k : Int) (i c j d s : Nat) (l l' : List UInt8) : sameQ k i c j d s l k i c j d s l' = sameB l l' := by
  unfold sameQ sameB
  congr 1
  simp
theorem sameQ_self (k : Int) (i c j d s : Nat) (l : List UInt8) : sameQ k i c j d s l k i c j d s l = true := by rw [sameQ_body, sameB_self]
set_option maxRecDepth 100000 in
theorem rsame6_any (k : Int) (i c j d s : Nat) (A : Option Addr) (n q : Nat) (l : List UInt8) (k' : Int) (i' c' j' d' s' : Nat) (A' : Option Addr) (n' q' : Nat) (l' : List UInt8) (w : World) (hA : Bs w w.heap.size A n l) (hA' : Bs w w.heap.size A' n' l') (hn : n ≤ maxLen) (hn' : n' ≤ maxLen) :
    Calls Try.prog 18 #[.agg #[.int .i64 (k : Int), .int .u16 (i : Int), .int .u32 (c : Int), .int .u16 (j : Int), .int .u32 (d : Int), .int .u64 (s : Int), .slice A n q], .agg #[.int .i64 (k' : Int), .int .u16 (i' : Int), .int .u32 (c' : Int), .int .u16 (j' : Int), .int .u32 (d' : Int), .int .u64 (s' : Int), .slice A' n' q']] w fun e w' => e = .returned (.bool (sameQ k i c j d s l k' i' c' j' d' s' l')) ∧ Below w.heap.size w w' := by
  have hb0 : Below w.heap.size w ((w.alloc (.cells #[.int .i64 (k : Int), .int .u16 (i : Int), .int .u32 (c : Int), .int .u16 (j : Int), .int .u32 (d : Int), .int .u64 (s : Int), .slice A n q] 29)).alloc (.cells #[.int .i64 (k' : Int), .int .u16 (i' : Int), .int .u32 (c' : Int), .int .u16 (j' : Int), .int .u32 (d' : Int), .int .u64 (s' : Int), .slice A' n' q'] 29)) := ((Below.refl _ _).alloc (Nat.le_refl _) _).alloc (by simp) _
  by_cases hk : k = k'
  · subst hk
    by_cases hi : i = i'
    · subst hi
      by_cases hc : c = c'
      · subst hc
        by_cases hj : j = j'
        · subst hj
          by_cases hd : d = d'
          · subst hd
            by_cases hs : s = s'
            · subst hs
              rw [sameQ_body]
              have hA1 := hA.below hb0
              have hA1' := hA'.below hb0
              go_enter Try.func18, Try.ntmps18
              go_wp2_with fail
              refine (same_any A A' n n' q q' l l' _ _ _ hA1 hA1' hn hn').mono ?_
              rintro e w1 ⟨rfl, hd⟩
              have hb1 := hb0.trans (drawn_below hd)
              go_wp2
              go_ret
              exact ⟨rfl, hb1⟩
            · rw [sameQ_no (by rintro ⟨e1, e2, e3, e4, e5, e6⟩; first | exact hs e1 | exact hs e2 | exact hs e3 | exact hs e4 | exact hs e5 | exact hs e6)]
              have q1 : ¬ ((s : Int) = (s' : Int)) := by omega
              have q2 : ((s : Int) == (s' : Int)) = false := by rw [beq_eq_false_iff_ne]; exact q1
              go_enter Try.func18, Try.ntmps18
              go_wp2
              go_ret
              exact ⟨rfl, hb0⟩
          · rw [sameQ_no (by rintro ⟨e1, e2, e3, e4, e5, e6⟩; first | exact hd e1 | exact hd e2 | exact hd e3 | exact hd e4 | exact hd e5 | exact hd e6)]
            have q1 : ¬ ((d : Int) = (d' : Int)) := by omega
            have q2 : ((d : Int) == (d' : Int)) = false := by rw [beq_eq_false_iff_ne]; exact q1
            go_enter Try.func18, Try.ntmps18
            go_wp2
            go_ret
            exact ⟨rfl, hb0⟩
        · rw [sameQ_no (by rintro ⟨e1, e2, e3, e4, e5, e6⟩; first | exact hj e1 | exact hj e2 | exact hj e3 | exact hj e4 | exact hj e5 | exact hj e6)]
          have q1 : ¬ ((j : Int) = (j' : Int)) := by omega
          have q2 : ((j : Int) == (j' : Int)) = false := by rw [beq_eq_false_iff_ne]; exact q1
          go_enter Try.func18, Try.ntmps18
          go_wp2
          go_ret
          exact ⟨rfl, hb0⟩
      · rw [sameQ_no (by rintro ⟨e1, e2, e3, e4, e5, e6⟩; first | exact hc e1 | exact hc e2 | exact hc e3 | exact hc e4 | exact hc e5 | exact hc e6)]
        have q1 : ¬ ((c : Int) = (c' : Int)) := by omega
        have q2 : ((c : Int) == (c' : Int)) = false := by rw [beq_eq_false_iff_ne]; exact q1
        go_enter Try.func18, Try.ntmps18
        go_wp2
        go_ret
        exact ⟨rfl, hb0⟩
    · rw [sameQ_no (by rintro ⟨e1, e2, e3, e4, e5, e6⟩; first | exact hi e1 | exact hi e2 | exact hi e3 | exact hi e4 | exact hi e5 | exact hi e6)]
      have q1 : ¬ ((i : Int) = (i' : Int)) := by omega
      have q2 : ((i : Int) == (i' : Int)) = false := by rw [beq_eq_false_iff_ne]; exact q1
      go_enter Try.func18, Try.ntmps18
      go_wp2
      go_ret
      exact ⟨rfl, hb0⟩
  · rw [sameQ_no (by rintro ⟨e1, e2, e3, e4, e5, e6⟩; first | exact hk e1 | exact hk e2 | exact hk e3 | exact hk e4 | exact hk e5 | exact hk e6)]
    have q1 : ¬ (k = k') := by omega
    have q2 : (k == k') = false := by rw [beq_eq_false_iff_ne]; exact q1
    go_enter Try.func18, Try.ntmps18
    go_wp2
    go_ret
    exact ⟨rfl, hb0⟩
set_option maxRecDepth 100000 in
theorem same6_any (k : Int) (i c j d s : Nat) (A : Option Addr) (n q : Nat) (l : List UInt8) (k' : Int) (i' c' j' d' s' : Nat) (A' : Option Addr) (n' q' : Nat) (l' : List UInt8) (w : World) (hA : Bs w w.heap.size A n l) (hA' : Bs w w.heap.size A' n' l') (hn : n ≤ maxLen) (hn' : n' ≤ maxLen) :
    Calls Try.prog 19 #[.agg #[.int .i64 (k : Int), .int .u16 (i : Int), .int .u32 (c : Int), .int .u16 (j : Int), .int .u32 (d : Int), .int .u64 (s : Int), .slice A n q], .agg #[.int .i64 (k' : Int), .int .u16 (i' : Int), .int .u32 (c' : Int), .int .u16 (j' : Int), .int .u32 (d' : Int), .int .u64 (s' : Int), .slice A' n' q']] w fun e w' => e = .returned (.bool (sameQ k i c j d s l k' i' c' j' d' s' l')) ∧ Below w.heap.size w w' := by
  have hb0 : Below w.heap.size w ((w.alloc (.cells #[.int .i64 (k : Int), .int .u16 (i : Int), .int .u32 (c : Int), .int .u16 (j : Int), .int .u32 (d : Int), .int .u64 (s : Int), .slice A n q] 29)).alloc (.cells #[.int .i64 (k' : Int), .int .u16 (i' : Int), .int .u32 (c' : Int), .int .u16 (j' : Int), .int .u32 (d' : Int), .int .u64 (s' : Int), .slice A' n' q'] 29)) := ((Below.refl _ _).alloc (Nat.le_refl _) _).alloc (by simp) _
  by_cases hk : k = k'
  · subst hk
    by_cases hi : i = i'
    · subst hi
      by_cases hc : c = c'
      · subst hc
        by_cases hj : j = j'
        · subst hj
          by_cases hd : d = d'
          · subst hd
            by_cases hs : s = s'
            · subst hs
              rw [sameQ_body]
              have hA1 := hA.below hb0
              have hA1' := hA'.below hb0
              go_enter Try.func19, Try.ntmps19
              go_wp2_with fail
              refine (equal_any A A' n n' q q' l l' _ _ _ hA1 hA1').mono ?_
              rintro e w1 ⟨rfl, rfl⟩
              go_wp2
              go_ret
              exact ⟨rfl, hb0⟩
            · rw [sameQ_no (by rintro ⟨e1, e2, e3, e4, e5, e6⟩; first | exact hs e1 | exact hs e2 | exact hs e3 | exact hs e4 | exact hs e5 | exact hs e6)]
              have q1 : ¬ ((s : Int) = (s' : Int)) := by omega
              have q2 : ((s : Int) == (s' : Int)) = false := by rw [beq_eq_false_iff_ne]; exact q1
              go_enter Try.func19, Try.ntmps19
              go_wp2
              go_ret
              exact ⟨rfl, hb0⟩
          · rw [sameQ_no (by rintro ⟨e1, e2, e3, e4, e5, e6⟩; first | exact hd e1 | exact hd e2 | exact hd e3 | exact hd e4 | exact hd e5 | exact hd e6)]
            have q1 : ¬ ((d : Int) = (d' : Int)) := by omega
            have q2 : ((d : Int) == (d' : Int)) = false := by rw [beq_eq_false_iff_ne]; exact q1
            go_enter Try.func19, Try.ntmps19
            go_wp2
            go_ret
            exact ⟨rfl, hb0⟩
        · rw [sameQ_no (by rintro ⟨e1, e2, e3, e4, e5, e6⟩; first | exact hj e1 | exact hj e2 | exact hj e3 | exact hj e4 | exact hj e5 | exact hj e6)]
          have q1 : ¬ ((j : Int) = (j' : Int)) := by omega
          have q2 : ((j : Int) == (j' : Int)) = false := by rw [beq_eq_false_iff_ne]; exact q1
          go_enter Try.func19, Try.ntmps19
          go_wp2
          go_ret
          exact ⟨rfl, hb0⟩
      · rw [sameQ_no (by rintro ⟨e1, e2, e3, e4, e5, e6⟩; first | exact hc e1 | exact hc e2 | exact hc e3 | exact hc e4 | exact hc e5 | exact hc e6)]
        have q1 : ¬ ((c : Int) = (c' : Int)) := by omega
        have q2 : ((c : Int) == (c' : Int)) = false := by rw [beq_eq_false_iff_ne]; exact q1
        go_enter Try.func19, Try.ntmps19
        go_wp2
        go_ret
        exact ⟨rfl, hb0⟩
    · rw [sameQ_no (by rintro ⟨e1, e2, e3, e4, e5, e6⟩; first | exact hi e1 | exact hi e2 | exact hi e3 | exact hi e4 | exact hi e5 | exact hi e6)]
      have q1 : ¬ ((i : Int) = (i' : Int)) := by omega
      have q2 : ((i : Int) == (i' : Int)) = false := by rw [beq_eq_false_iff_ne]; exact q1
      go_enter Try.func19, Try.ntmps19
      go_wp2
      go_ret
      exact ⟨rfl, hb0⟩
  · rw [sameQ_no (by rintro ⟨e1, e2, e3, e4, e5, e6⟩; first | exact hk e1 | exact hk e2 | exact hk e3 | exact hk e4 | exact hk e5 | exact hk e6)]
    have q1 : ¬ (k = k') := by omega
    have q2 : (k == k') = false := by rw [beq_eq_false_iff_ne]; exact q1
    go_enter Try.func19, Try.ntmps19
    go_wp2
    go_ret
    exact ⟨rfl, hb0⟩
end Go.Proofs.Ytkhkihobbfecoaa
