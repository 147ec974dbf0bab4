/-
  Layer 5: the document's Flags and Of.
-/
import Derived.Test.YthloamhodapmpaaMask6
namespace Go.Proofs.Ythloamhodapmpaa
open Go.RowKit
set_option linter.unusedVariables false
set_option linter.unusedSimpArgs false

theorem MAt.set0 {w : World} {b x y : Nat} (h : MAt w b x y) (x' : Nat) (v : Int) (hv : v = (x' : Int)) : MAt (w.setCell ⟨b, 0, none⟩ (.int .u64 v)) b x' y := by
  subst hv; exact heap_setCell_same w b 0 _ _ (.int .u64 (x' : Int)) h
theorem MAt.set1 {w : World} {b x y : Nat} (h : MAt w b x y) (y' : Nat) (v : Int) (hv : v = (y' : Int)) : MAt (w.setCell ⟨b, 1, none⟩ (.int .u64 v)) b x y' := by
  subst hv; exact heap_setCell_same w b 1 _ _ (.int .u64 (y' : Int)) h

theorem flags_step (f : Nat → Bool) (k : Nat) (i : Nat) : (if i = k then f k else decide (i < k) && f i) = (decide (i < k + 1) && f i) := by
  by_cases h : i = k
  · subst h; simp
  · rw [if_neg h]; congr 1; apply decide_eq_decide.2; omega
/-! ### Of: from the last to the first -/
def loR (p : Nat → Bool) (j : Nat) : Nat := if j < 64 then wordOf (fun i => p (i + j)) (64 - j) else 0
def hiR (p : Nat → Bool) (j : Nat) : Nat := if j < 64 then hiM p else wordOf (fun i => p (i + j)) (128 - j)
theorem word_step (p : Nat → Bool) (j k : Nat) : wordOf (fun i => p (i + j)) (k + 1) = 2 * wordOf (fun i => p (i + (j + 1))) k + (p j).toNat := by
  rw [wordOf, Nat.zero_add]
  congr 2
  exact wordOf_congr fun i _ => by rw [show i + 1 + j = i + (j + 1) from by omega]
theorem loR_lo (p : Nat → Bool) (j : Nat) (h : j < 64) : loR p j = 2 * loR p (j + 1) + (p j).toNat := by
  unfold loR
  rw [if_pos h, show 64 - j = (63 - j) + 1 from by omega, word_step]
  by_cases h2 : j + 1 < 64
  · rw [if_pos h2, show 64 - (j + 1) = 63 - j from by omega]
  · rw [if_neg h2, show 63 - j = 0 from by omega]; rfl
theorem hiR_lo (p : Nat → Bool) (j : Nat) (h : j < 64) : hiR p j = hiR p (j + 1) := by
  unfold hiR
  rw [if_pos h]
  by_cases h2 : j + 1 < 64
  · rw [if_pos h2]
  · rw [if_neg h2, show j + 1 = 64 from by omega]; rfl
theorem hiR_hi (p : Nat → Bool) (j : Nat) (h : ¬ j < 64) (h' : j < 128) : hiR p j = 2 * hiR p (j + 1) + (p j).toNat := by
  unfold hiR
  rw [if_neg h, if_neg (by omega), show 128 - j = (128 - (j + 1)) + 1 from by omega, word_step]
theorem loR_hi (p : Nat → Bool) (j : Nat) (h : ¬ j < 64) : loR p j = loR p (j + 1) := by
  unfold loR
  rw [if_neg h, if_neg (by omega)]
theorem two63 : (9223372036854775808 : Nat) = 2 ^ 63 := by decide
theorem pow63 {j : Nat} (h : j ≤ 63) : 2 ^ j ≤ 9223372036854775808 := Nat.le_trans (Nat.pow_le_pow_right (by decide) h) (by decide)
theorem loR_half (p : Nat → Bool) (j : Nat) (h : j < 64) : loR p (j + 1) < 9223372036854775808 := by
  unfold loR
  split
  · exact Nat.lt_of_lt_of_le (wordOf_lt _ _) (pow63 (by omega))
  · decide
theorem hiR_half (p : Nat → Bool) (j : Nat) (h : ¬ j < 64) : hiR p (j + 1) < 9223372036854775808 := by
  unfold hiR
  rw [if_neg (by omega)]
  exact Nat.lt_of_lt_of_le (wordOf_lt _ _) (pow63 (by omega))
theorem loR_0 (p : Nat → Bool) : loR p 0 = loM p := by unfold loR loM; rw [if_pos (by omega)]; rfl
theorem hiR_0 (p : Nat → Bool) : hiR p 0 = hiM p := by unfold hiR; rw [if_pos (by omega)]
theorem loR_128 (p : Nat → Bool) : loR p 128 = 0 := by unfold loR; rw [if_neg (by omega)]
theorem hiR_128 (p : Nat → Bool) : hiR p 128 = 0 := by unfold hiR; rw [if_neg (by omega)]; rfl
/-- What the two words hold when the ranks from j on are done. -/
structure OfR (p : Nat → Bool) (j x y : Nat) : Prop where
  lo : x = loR p j
  hi : y = hiR p j
theorem OfR.start (p : Nat → Bool) : OfR p 128 0 0 := ⟨(loR_128 p).symm, (hiR_128 p).symm⟩
theorem OfR.done {p : Nat → Bool} {x y : Nat} (h : OfR p 0 x y) : x = loM p ∧ y = hiM p := ⟨h.lo.trans (loR_0 p), h.hi.trans (hiR_0 p)⟩
theorem OfR.stepLo {p : Nat → Bool} {j x y : Nat} (h : OfR p (j + 1) x y) (hj : j < 64) : OfR p j (2 * x + (p j).toNat) y ∧ x < 9223372036854775808 :=
  ⟨⟨by rw [loR_lo p j hj, h.lo], by rw [hiR_lo p j hj, h.hi]⟩, by rw [h.lo]; exact loR_half p j hj⟩
theorem OfR.stepHi {p : Nat → Bool} {j x y : Nat} (h : OfR p (j + 1) x y) (hj : ¬ j < 64) (hj' : j < 128) : OfR p j x (2 * y + (p j).toNat) ∧ y < 9223372036854775808 :=
  ⟨⟨by rw [loR_hi p j hj, h.lo], by rw [hiR_hi p j hj hj', h.hi]⟩, by rw [h.hi]; exact hiR_half p j hj⟩
set_option maxRecDepth 100000 in
theorem rof_any (p : Nat → Bool) (w : World) :
    Calls Try.prog 48 #[.agg (flagsA p)] w fun e w' => e = .returned (.agg #[.int .u64 ((loM p : Nat) : Int), .int .u64 ((hiM p : Nat) : Int)]) ∧ Below w.heap.size w w' := by
  obtain ⟨w3, hw3⟩ : ∃ w3, w3 = ((w.alloc (.cells (flagsA p) 75)).alloc (.cells #[.int .u64 0, .int .u64 0] 39)).alloc (.cells #[.int .u64 0, .int .u64 0] 39) := ⟨_, rfl⟩
  have m0 : FAt w3 w.heap.size p := by rw [hw3]; exact ((FAt.mk_ w p).alloc _).alloc _
  have m1 : MAt w3 (w.heap.size + 1) 0 0 := by
    rw [hw3]
    have := (MAt.mk_ (w.alloc (.cells (flagsA p) 75)) 0 0).alloc (.cells #[.int .u64 0, .int .u64 0] 39)
    rw [World.size_alloc] at this
    exact this
  have m2 : MAt w3 (w.heap.size + 1 + 1) 0 0 := by
    rw [hw3]
    have := MAt.mk_ ((w.alloc (.cells (flagsA p) 75)).alloc (.cells #[.int .u64 0, .int .u64 0] 39)) 0 0
    rw [World.size_alloc, World.size_alloc] at this
    exact this
  have hb0 : Below w.heap.size w w3 := by rw [hw3]; exact (((Below.refl _ _).alloc (Nat.le_refl _) _).alloc (by simp) _).alloc (by simp; omega) _
  generalize hfa : flagsA p = fa at hw3
  have hs0 := OfR.start p
  have hdn := fun x y (h : OfR p 0 x y) => h.done
  have hsl := fun j x y (h : OfR p (j + 1) x y) => h.stepLo
  have hsh := fun j x y (h : OfR p (j + 1) x y) => h.stepHi
  have HDN := hide hdn
  have HSL := hide hsl
  have HSH := hide hsh
  clear hdn hsl hsh
  go_enter Try.func48, Try.ntmps48
  go_wp2
  rw [← hw3]
  clear hw3
  go_loopw [4] (fun i wr => ∃ j x y : Nat, ∃ z : Int, j ≤ 128 ∧ i = .int .i64 z ∧ z = (j : Int) - 1 ∧ OfR p j x y ∧ FAt wr w.heap.size p ∧ MAt wr (w.heap.size + 1) 0 0 ∧ MAt wr (w.heap.size + 1 + 1) x y ∧ Below w.heap.size w wr) (fun i _ => (intOf i + 1).toNat)
  case atStart => exact ⟨128, 0, 0, 127, by omega, rfl, rfl, hs0, m0, m1, m2, hb0⟩
  case round =>
    obtain ⟨j, x, y, z, hj, rfl, hz, hinv, q0, q1, q2, hb1⟩ := hrel
    clear m0 m1 m2 hb0 hs0
    cases j with
    | zero =>
      obtain rfl : z = -1 := by simpa using hz
      clear hz
      have hd := HDN.out _ _ hinv
      have e0 := q1.fz 0
      have e1 := q1.fz 1
      have e2 := q1.c0
      have e3 := q1.c1
      have e4 := q2.c0
      have e5 := q2.c1
      have s1 := q1.set_ x y
      have s2 : Below w.heap.size w ((wr.setCell ⟨w.heap.size + 1, 0, none⟩ (.int .u64 (x : Int))).setCell ⟨w.heap.size + 1, 1, none⟩ (.int .u64 (y : Int))) := (hb1.setCell (by simp) _).setCell (by simp) _
      have t0 := s1.c0
      have t1 := s1.c1
      have T := hide (And.intro t0 (And.intro t1 (And.intro s2 hd)))
      clear t0 t1 s2 s1 hb1 q0 q1 q2 hd hinv HDN HSL HSH
      go_wp2
      obtain ⟨t0, t1, s2, h1, h2⟩ := T.out
      rw [← h1, ← h2]
      clear T h1 h2
      generalize ((wr.setCell ⟨w.heap.size + 1, 0, none⟩ (.int .u64 (x : Int))).setCell ⟨w.heap.size + 1, 1, none⟩ (.int .u64 (y : Int))) = w9 at t0 t1 s2 ⊢
      exact bodyPost_ret (v := .agg #[.int .u64 (x : Int), .int .u64 (y : Int)]) (by simp [results, Try.results48, go_sem, t0, t1]) rfl ⟨rfl, s2⟩
    | succ j =>
      obtain rfl : z = (j : Int) := by omega
      have d0 := q2.c0
      have d1 := q2.c1
      have d2 := q2.fz 0
      have d3 := q2.fz 1
      have hj128 : j < 128 := by omega
      have d4 := q0.cell hj128
      by_cases h : j < 64
      · have h1 : (j : Int) / 64 = 0 := by omega
        obtain ⟨hst, hlt⟩ := HSL.out _ _ _ hinv h
        clear HDN HSL HSH hinv hz
        obtain ⟨q, hq⟩ : ∃ q, q = p j := ⟨_, rfl⟩
        rw [← hq] at hst d4
        clear hq
        cases q
        · have s0 := q0.other (a := ⟨w.heap.size + 1 + 1, 0, none⟩) (.int .u64 ((x : Int) * 2)) (by simp; omega)
          have s1 := q1.other (a := ⟨w.heap.size + 1 + 1, 0, none⟩) (.int .u64 ((x : Int) * 2)) (by simp)
          have s2 := q2.set0 (2 * x + Bool.toNat false) ((x : Int) * 2) (by simp; omega)
          have s3 : Below w.heap.size w (wr.setCell ⟨w.heap.size + 1 + 1, 0, none⟩ (.int .u64 ((x : Int) * 2))) := hb1.setCell (by simp; omega) _
          have T := hide (And.intro hst (And.intro s0 (And.intro s1 (And.intro s2 s3))))
          clear s0 s1 s2 s3 q0 q1 q2 hb1 hst
          go_wp2
          go_roundw
          case rel => exact ⟨j, 2 * x + Bool.toNat false, y, (j : Int) - 1, by omega, by go_num, rfl, T.out.1, T.out.2.1, T.out.2.2.1, T.out.2.2.2.1, T.out.2.2.2.2⟩
          case measure => simp [intOf]
        · have s0 := (q0.other (a := ⟨w.heap.size + 1 + 1, 0, none⟩) (.int .u64 ((x : Int) * 2)) (by simp; omega)).other (a := ⟨w.heap.size + 1 + 1, 0, none⟩) (.int .u64 ((x : Int) * 2 + 1)) (by simp; omega)
          have s1 := (q1.other (a := ⟨w.heap.size + 1 + 1, 0, none⟩) (.int .u64 ((x : Int) * 2)) (by simp)).other (a := ⟨w.heap.size + 1 + 1, 0, none⟩) (.int .u64 ((x : Int) * 2 + 1)) (by simp)
          have s2 := (q2.set0 (2 * x) ((x : Int) * 2) (by simp; omega)).set0 (2 * x + Bool.toNat true) ((x : Int) * 2 + 1) (by simp; omega)
          have s3 : Below w.heap.size w ((wr.setCell ⟨w.heap.size + 1 + 1, 0, none⟩ (.int .u64 ((x : Int) * 2))).setCell ⟨w.heap.size + 1 + 1, 0, none⟩ (.int .u64 ((x : Int) * 2 + 1))) := (hb1.setCell (by simp; omega) _).setCell (by simp; omega) _
          have T := hide (And.intro hst (And.intro s0 (And.intro s1 (And.intro s2 s3))))
          clear s0 s1 s2 s3 q0 q1 q2 hb1 hst
          go_wp2
          go_roundw
          case rel => exact ⟨j, 2 * x + Bool.toNat true, y, (j : Int) - 1, by omega, by go_num, rfl, T.out.1, T.out.2.1, T.out.2.2.1, T.out.2.2.2.1, T.out.2.2.2.2⟩
          case measure => simp [intOf]
      · have h1 : (j : Int) / 64 = 1 := by omega
        obtain ⟨hst, hlt⟩ := HSH.out _ _ _ hinv h hj128
        clear HDN HSL HSH hinv hz
        obtain ⟨q, hq⟩ : ∃ q, q = p j := ⟨_, rfl⟩
        rw [← hq] at hst d4
        clear hq
        cases q
        · have s0 := q0.other (a := ⟨w.heap.size + 1 + 1, 1, none⟩) (.int .u64 ((y : Int) * 2)) (by simp; omega)
          have s1 := q1.other (a := ⟨w.heap.size + 1 + 1, 1, none⟩) (.int .u64 ((y : Int) * 2)) (by simp)
          have s2 := q2.set1 (2 * y + Bool.toNat false) ((y : Int) * 2) (by simp; omega)
          have s3 : Below w.heap.size w (wr.setCell ⟨w.heap.size + 1 + 1, 1, none⟩ (.int .u64 ((y : Int) * 2))) := hb1.setCell (by simp; omega) _
          have T := hide (And.intro hst (And.intro s0 (And.intro s1 (And.intro s2 s3))))
          clear s0 s1 s2 s3 q0 q1 q2 hb1 hst
          go_wp2
          go_roundw
          case rel => exact ⟨j, x, 2 * y + Bool.toNat false, (j : Int) - 1, by omega, by go_num, rfl, T.out.1, T.out.2.1, T.out.2.2.1, T.out.2.2.2.1, T.out.2.2.2.2⟩
          case measure => simp [intOf]
        · have s0 := (q0.other (a := ⟨w.heap.size + 1 + 1, 1, none⟩) (.int .u64 ((y : Int) * 2)) (by simp; omega)).other (a := ⟨w.heap.size + 1 + 1, 1, none⟩) (.int .u64 ((y : Int) * 2 + 1)) (by simp; omega)
          have s1 := (q1.other (a := ⟨w.heap.size + 1 + 1, 1, none⟩) (.int .u64 ((y : Int) * 2)) (by simp)).other (a := ⟨w.heap.size + 1 + 1, 1, none⟩) (.int .u64 ((y : Int) * 2 + 1)) (by simp)
          have s2 := (q2.set1 (2 * y) ((y : Int) * 2) (by simp; omega)).set1 (2 * y + Bool.toNat true) ((y : Int) * 2 + 1) (by simp; omega)
          have s3 : Below w.heap.size w ((wr.setCell ⟨w.heap.size + 1 + 1, 1, none⟩ (.int .u64 ((y : Int) * 2))).setCell ⟨w.heap.size + 1 + 1, 1, none⟩ (.int .u64 ((y : Int) * 2 + 1))) := (hb1.setCell (by simp; omega) _).setCell (by simp; omega) _
          have T := hide (And.intro hst (And.intro s0 (And.intro s1 (And.intro s2 s3))))
          clear s0 s1 s2 s3 q0 q1 q2 hb1 hst
          go_wp2
          go_roundw
          case rel => exact ⟨j, x, 2 * y + Bool.toNat true, (j : Int) - 1, by omega, by go_num, rfl, T.out.1, T.out.2.1, T.out.2.2.1, T.out.2.2.2.1, T.out.2.2.2.2⟩
          case measure => simp [intOf]
end Go.Proofs.Ythloamhodapmpaa
