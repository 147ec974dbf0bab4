/-
  Frames: the contracts of Check, the program's and the document's.
-/
import Derived.Test.YtkhkihobbfecoaaFrame1
namespace Go.Proofs.Ytkhkihobbfecoaa
open Go.RowKit
set_option linter.unusedVariables false
set_option linter.unusedSimpArgs false

theorem checkF_k {k : Int} {i c j d n : Nat} (h : k < 1 ∨ 3 < k) : checkF k i c j d n = 1 := by
  have : fitB k i c j d = false := by
    unfold fitB
    rcases h with h | h
    · rw [show decide (1 ≤ k) = false from by simp; omega]; simp
    · rw [show decide (k ≤ 3) = false from by simp; omega]; simp
  unfold checkF; rw [this]; rfl
theorem checkF_m {k : Int} {i c j d n : Nat} (h : mayB i c = false ∨ mayB j d = false) : checkF k i c j d n = 1 := by
  have : fitB k i c j d = false := by
    unfold fitB
    rcases h with h | h
    · rw [h]; simp
    · rw [h]; simp
  unfold checkF; rw [this]; rfl
theorem checkF_n {k : Int} {i c j d n : Nat} (h1 : 1 ≤ k) (h2 : k ≤ 3) (h3 : mayB i c = true) (h4 : mayB j d = true) : checkF k i c j d n = if 4096 < n then 3 else 0 := by
  have : fitB k i c j d = true := by
    unfold fitB
    rw [h3, h4]; simp [h1, h2]
  unfold checkF; rw [if_pos this]
set_option maxRecDepth 100000 in
theorem check_any (k : Int) (i c j d s : Nat) (A : Option Addr) (n q : Nat) (w : World) (hk0 : -9223372036854775808 ≤ k) (hk1 : k ≤ 9223372036854775807) (hi : i < 65536) (hc : c < 4294967296) (hj : j < 65536) (hd : d < 4294967296) (hn : n ≤ 140737488355328) :
    Calls Try.prog 12 #[.agg #[.int .i64 (k : Int), .int .u16 (i : Int), .int .u32 (c : Int), .int .u16 (j : Int), .int .u32 (d : Int), .int .u64 (s : Int), .slice A n q]] w fun e w' => e = .returned (.int .i64 (checkF k i c j d n : Nat)) ∧ Below w.heap.size w w' := by
  have c1 := fun W => may_any i c W hi hc
  have c2 := fun W => may_any j d W hj hd
  have hb0 : Below w.heap.size w (w.alloc (.cells #[.int .i64 (k : Int), .int .u16 (i : Int), .int .u32 (c : Int), .int .u16 (j : Int), .int .u32 (d : Int), .int .u64 (s : Int), .slice A n q] 29)) := (Below.refl _ _).alloc (Nat.le_refl _) _
  by_cases k1 : 1 ≤ k
  · have t1 : (k < 1) = False := by simp; omega
    by_cases k2 : k ≤ 3
    · have t2 : (k > 3) = False := by simp; omega
      by_cases m1 : mayB i c = true
      · rw [m1] at c1
        by_cases m2 : mayB j d = true
        · rw [m2] at c2
          rw [checkF_n k1 k2 m1 m2]
          by_cases n1 : 4096 < n
          · rw [if_pos n1]
            clear m1 m2
            go_enter Try.func12, Try.ntmps12
            go_wp2_with fail
            refine (c1 _).mono ?_
            rintro e w1 ⟨rfl, hb1⟩
            have hP := hb1.block w.heap.size (by simp)
            have hP1 : PkAt w1 w.heap.size k i c j d s A n q := hP.trans (PkAt.new w)
            obtain ⟨f0, f1, f2, f3, f4, f5, f6⟩ := hP1.cells
            have hbx := hb0.trans (hb1.mono (by simp))
            have hs := hbx.size
            clear hb1 hP
            clear hb0
            go_wp2_with fail
            refine (c2 _).mono ?_
            rintro e w2 ⟨rfl, hb2⟩
            have hP2 := hP1.later hb2
            clear f0 f1 f2 f3 f4 f5 f6 hP1
            obtain ⟨f0, f1, f2, f3, f4, f5, f6⟩ := hP2.cells
            have hby := hbx.trans (hb2.mono hs)
            clear hb2 hbx
            go_wp2
            go_ret
            exact ⟨rfl, hby⟩
          · rw [if_neg n1]
            clear m1 m2
            go_enter Try.func12, Try.ntmps12
            go_wp2_with fail
            refine (c1 _).mono ?_
            rintro e w1 ⟨rfl, hb1⟩
            have hP := hb1.block w.heap.size (by simp)
            have hP1 : PkAt w1 w.heap.size k i c j d s A n q := hP.trans (PkAt.new w)
            obtain ⟨f0, f1, f2, f3, f4, f5, f6⟩ := hP1.cells
            have hbx := hb0.trans (hb1.mono (by simp))
            have hs := hbx.size
            clear hb1 hP
            clear hb0
            go_wp2_with fail
            refine (c2 _).mono ?_
            rintro e w2 ⟨rfl, hb2⟩
            have hP2 := hP1.later hb2
            clear f0 f1 f2 f3 f4 f5 f6 hP1
            obtain ⟨f0, f1, f2, f3, f4, f5, f6⟩ := hP2.cells
            have hby := hbx.trans (hb2.mono hs)
            clear hb2 hbx
            go_wp2
            go_ret
            exact ⟨rfl, hby⟩
        · have m2' : mayB j d = false := by simpa using m2
          rw [m2'] at c2
          rw [checkF_m (.inr m2')]
          clear m1 m2 m2'
          go_enter Try.func12, Try.ntmps12
          go_wp2_with fail
          refine (c1 _).mono ?_
          rintro e w1 ⟨rfl, hb1⟩
          have hP := hb1.block w.heap.size (by simp)
          have hP1 : PkAt w1 w.heap.size k i c j d s A n q := hP.trans (PkAt.new w)
          obtain ⟨f0, f1, f2, f3, f4, f5, f6⟩ := hP1.cells
          have hbx := hb0.trans (hb1.mono (by simp))
          have hs := hbx.size
          clear hb1 hP
          clear hb0
          go_wp2_with fail
          refine (c2 _).mono ?_
          rintro e w2 ⟨rfl, hb2⟩
          have hP2 := hP1.later hb2
          clear f0 f1 f2 f3 f4 f5 f6 hP1
          obtain ⟨f0, f1, f2, f3, f4, f5, f6⟩ := hP2.cells
          have hby := hbx.trans (hb2.mono hs)
          clear hb2 hbx
          go_wp2
          go_ret
          exact ⟨rfl, hby⟩
      · have m1' : mayB i c = false := by simpa using m1
        rw [m1'] at c1
        rw [checkF_m (.inl m1')]
        clear m1 m1' c2
        go_enter Try.func12, Try.ntmps12
        go_wp2_with fail
        refine (c1 _).mono ?_
        rintro e w1 ⟨rfl, hb1⟩
        have hP := hb1.block w.heap.size (by simp)
        have hP1 : PkAt w1 w.heap.size k i c j d s A n q := hP.trans (PkAt.new w)
        obtain ⟨f0, f1, f2, f3, f4, f5, f6⟩ := hP1.cells
        have hbx := hb0.trans (hb1.mono (by simp))
        have hs := hbx.size
        clear hb1 hP
        go_wp2
        go_ret
        exact ⟨rfl, hbx⟩
    · have t2 : (k > 3) = True := by simp; omega
      rw [checkF_k (.inr (by omega))]
      clear c1 c2
      go_enter Try.func12, Try.ntmps12
      go_wp2
      go_ret
      exact ⟨rfl, hb0⟩
  · have t1 : (k < 1) = True := by simp; omega
    rw [checkF_k (.inl (by omega))]
    clear c1 c2
    go_enter Try.func12, Try.ntmps12
    go_wp2
    go_ret
    exact ⟨rfl, hb0⟩
set_option maxRecDepth 100000 in
theorem rcheck_any (k : Int) (i c j d s : Nat) (A : Option Addr) (n q : Nat) (w : World) (hk0 : -9223372036854775808 ≤ k) (hk1 : k ≤ 9223372036854775807) (hi : i < 65536) (hc : c < 4294967296) (hj : j < 65536) (hd : d < 4294967296) (hn : n ≤ 140737488355328) :
    Calls Try.prog 11 #[.agg #[.int .i64 (k : Int), .int .u16 (i : Int), .int .u32 (c : Int), .int .u16 (j : Int), .int .u32 (d : Int), .int .u64 (s : Int), .slice A n q]] w fun e w' => e = .returned (.int .i64 (checkF k i c j d n : Nat)) ∧ Below w.heap.size w w' := by
  have c1 := fun W => rmay_any i c W hi hc
  have c2 := fun W => rmay_any j d W hj hd
  have hb0 : Below w.heap.size w (w.alloc (.cells #[.int .i64 (k : Int), .int .u16 (i : Int), .int .u32 (c : Int), .int .u16 (j : Int), .int .u32 (d : Int), .int .u64 (s : Int), .slice A n q] 29)) := (Below.refl _ _).alloc (Nat.le_refl _) _
  by_cases k1 : 1 ≤ k
  · have t1 : (k < 1) = False := by simp; omega
    by_cases k2 : k ≤ 3
    · have t2 : (k > 3) = False := by simp; omega
      by_cases m1 : mayB i c = true
      · rw [m1] at c1
        by_cases m2 : mayB j d = true
        · rw [m2] at c2
          rw [checkF_n k1 k2 m1 m2]
          by_cases n1 : 4096 < n
          · rw [if_pos n1]
            clear m1 m2
            go_enter Try.func11, Try.ntmps11
            go_wp2_with fail
            refine (c1 _).mono ?_
            rintro e w1 ⟨rfl, hb1⟩
            have hP := hb1.block w.heap.size (by simp)
            have hP1 : PkAt w1 w.heap.size k i c j d s A n q := hP.trans (PkAt.new w)
            obtain ⟨f0, f1, f2, f3, f4, f5, f6⟩ := hP1.cells
            have hbx := hb0.trans (hb1.mono (by simp))
            have hs := hbx.size
            clear hb1 hP
            clear hb0
            go_wp2_with fail
            refine (c2 _).mono ?_
            rintro e w2 ⟨rfl, hb2⟩
            have hP2 := hP1.later hb2
            clear f0 f1 f2 f3 f4 f5 f6 hP1
            obtain ⟨f0, f1, f2, f3, f4, f5, f6⟩ := hP2.cells
            have hby := hbx.trans (hb2.mono hs)
            clear hb2 hbx
            go_wp2
            go_ret
            exact ⟨rfl, hby⟩
          · rw [if_neg n1]
            clear m1 m2
            go_enter Try.func11, Try.ntmps11
            go_wp2_with fail
            refine (c1 _).mono ?_
            rintro e w1 ⟨rfl, hb1⟩
            have hP := hb1.block w.heap.size (by simp)
            have hP1 : PkAt w1 w.heap.size k i c j d s A n q := hP.trans (PkAt.new w)
            obtain ⟨f0, f1, f2, f3, f4, f5, f6⟩ := hP1.cells
            have hbx := hb0.trans (hb1.mono (by simp))
            have hs := hbx.size
            clear hb1 hP
            clear hb0
            go_wp2_with fail
            refine (c2 _).mono ?_
            rintro e w2 ⟨rfl, hb2⟩
            have hP2 := hP1.later hb2
            clear f0 f1 f2 f3 f4 f5 f6 hP1
            obtain ⟨f0, f1, f2, f3, f4, f5, f6⟩ := hP2.cells
            have hby := hbx.trans (hb2.mono hs)
            clear hb2 hbx
            go_wp2
            go_ret
            exact ⟨rfl, hby⟩
        · have m2' : mayB j d = false := by simpa using m2
          rw [m2'] at c2
          rw [checkF_m (.inr m2')]
          clear m1 m2 m2'
          go_enter Try.func11, Try.ntmps11
          go_wp2_with fail
          refine (c1 _).mono ?_
          rintro e w1 ⟨rfl, hb1⟩
          have hP := hb1.block w.heap.size (by simp)
          have hP1 : PkAt w1 w.heap.size k i c j d s A n q := hP.trans (PkAt.new w)
          obtain ⟨f0, f1, f2, f3, f4, f5, f6⟩ := hP1.cells
          have hbx := hb0.trans (hb1.mono (by simp))
          have hs := hbx.size
          clear hb1 hP
          clear hb0
          go_wp2_with fail
          refine (c2 _).mono ?_
          rintro e w2 ⟨rfl, hb2⟩
          have hP2 := hP1.later hb2
          clear f0 f1 f2 f3 f4 f5 f6 hP1
          obtain ⟨f0, f1, f2, f3, f4, f5, f6⟩ := hP2.cells
          have hby := hbx.trans (hb2.mono hs)
          clear hb2 hbx
          go_wp2
          go_ret
          exact ⟨rfl, hby⟩
      · have m1' : mayB i c = false := by simpa using m1
        rw [m1'] at c1
        rw [checkF_m (.inl m1')]
        clear m1 m1' c2
        go_enter Try.func11, Try.ntmps11
        go_wp2_with fail
        refine (c1 _).mono ?_
        rintro e w1 ⟨rfl, hb1⟩
        have hP := hb1.block w.heap.size (by simp)
        have hP1 : PkAt w1 w.heap.size k i c j d s A n q := hP.trans (PkAt.new w)
        obtain ⟨f0, f1, f2, f3, f4, f5, f6⟩ := hP1.cells
        have hbx := hb0.trans (hb1.mono (by simp))
        have hs := hbx.size
        clear hb1 hP
        go_wp2
        go_ret
        exact ⟨rfl, hbx⟩
    · have t2 : (k > 3) = True := by simp; omega
      rw [checkF_k (.inr (by omega))]
      clear c1 c2
      go_enter Try.func11, Try.ntmps11
      go_wp2
      go_ret
      exact ⟨rfl, hb0⟩
  · have t1 : (k < 1) = True := by simp; omega
    rw [checkF_k (.inl (by omega))]
    clear c1 c2
    go_enter Try.func11, Try.ntmps11
    go_wp2
    go_ret
    exact ⟨rfl, hb0⟩
end Go.Proofs.Ytkhkihobbfecoaa
