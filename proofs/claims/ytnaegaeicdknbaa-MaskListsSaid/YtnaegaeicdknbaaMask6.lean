/-
  Layer 5: variables of 128 bools; the document's Set, Flags, Of, Count.
-/
import Derived.Test.YtnaegaeicdknbaaMask4
import Derived.Test.YtnaegaeicdknbaaBit1
import Derived.Deep.WholeRow
namespace Go.Proofs.Ytnaegaeicdknbaa
open Go.RowKit
set_option linter.unusedVariables false
set_option linter.unusedSimpArgs false

/-- 128 bools as cells. -/
def flagsA (p : Nat → Bool) : Array Value := ((List.range 128).map fun i => Value.bool (p i)).toArray
theorem flagsA_size (p : Nat → Bool) : (flagsA p).size = 128 := by simp [flagsA]
theorem flagsA_get (p : Nat → Bool) (i : Nat) (h : i < 128) : (flagsA p)[i]? = some (.bool (p i)) := by simp [flagsA, h]
theorem flagsA_over (p : Nat → Bool) (i : Nat) (h : ¬ i < 128) : (flagsA p)[i]? = none := by simp [flagsA]; omega
theorem flagsA_one (p : Nat → Bool) : (flagsA p).all (·.oneCell') = true := by
  rw [Array.all_eq_true_iff_forall_mem]
  intro x hx
  simp only [flagsA, List.mem_toArray, List.mem_map] at hx
  obtain ⟨i, _, rfl⟩ := hx
  rfl
theorem flagsA_congr {p q : Nat → Bool} (h : ∀ i, i < 128 → p i = q i) : flagsA p = flagsA q := by
  unfold flagsA
  congr 1
  exact List.map_congr_left fun i hi => by rw [h i (by simpa using hi)]
theorem flagsA_set (p : Nat → Bool) (i : Nat) (v : Bool) (h : i < 128) : (flagsA p).setIfInBounds i (.bool v) = flagsA fun j => if j = i then v else p j := by
  apply Array.ext_getElem?
  intro j
  rw [Array.getElem?_setIfInBounds]
  by_cases hj : j < 128
  · rw [flagsA_get _ _ hj]
    by_cases e : i = j
    · subst e
      rw [if_pos rfl, if_pos (by rw [flagsA_size]; exact h), flagsA_get _ _ hj, if_pos rfl]
    · rw [if_neg e, flagsA_get _ _ hj, if_neg (fun x => e x.symm)]
  · rw [flagsA_over _ _ hj]
    by_cases e : i = j
    · omega
    · rw [if_neg e, flagsA_over _ _ hj]
theorem zeroFlags (w : World) : (zeroValue 26).run Try.prog w = .ok (.agg (flagsA fun _ => false)) w := by kernel_rfl
theorem sizeFlags (p : Nat → Bool) : (Try.prog.info? 26).map (·.size) = some (flagsA p).size := by
  rw [flagsA_size]; kernel_rfl
/-- 128 bools in block b. -/
def FAt (w : World) (b : Nat) (p : Nat → Bool) : Prop := w.heap[b]? = some (.cells (flagsA p) 26 (0, 0))
section
variable {w w' : World} {b : Nat} {p : Nat → Bool}
theorem FAt.cell (h : FAt w b p) {i : Nat} (hi : i < 128) : w.cell? ⟨b, i, none⟩ = some (.bool (p i)) := (cell_of_row w b i _ _ _ h).trans (flagsA_get p i hi)
theorem FAt.fz (h : FAt w b p) (i : Nat) : w.frozen? ⟨b, i, none⟩ = false := frozen_of_row w b i _ _ h
theorem FAt.lt (h : FAt w b p) : b < w.heap.size := (Array.getElem?_eq_some_iff.1 h).1
theorem FAt.below {B : Nat} (h : FAt w b p) (hb : Below B w w') (hB : b < B) : FAt w' b p := (hb.block b hB).trans h
theorem FAt.later (h : FAt w b p) (hb : Below w.heap.size w w') : FAt w' b p := h.below hb h.lt
theorem FAt.alloc (h : FAt w b p) (o : Obj) : FAt (w.alloc o) b p := (Below.heap_alloc w o b h.lt).trans h
theorem FAt.mk_ (w : World) (p : Nat → Bool) : FAt (w.alloc (.cells (flagsA p) 26)) w.heap.size p := heap_alloc_new w _
theorem FAt.other (h : FAt w b p) {a : Addr} (v : Value) (hb : b ≠ a.block) : FAt (w.setCell a v) b p := (heap_setCell_other w a b v hb).trans h
theorem FAt.set_ (h : FAt w b p) {i : Nat} (hi : i < 128) (v : Bool) : FAt (w.setCell ⟨b, i, none⟩ (.bool v)) b (fun j => if j = i then v else p j) := by
  have h1 := heap_setCell_same w b i _ _ (.bool v) h
  rw [flagsA_set p i v hi] at h1
  exact h1
theorem FAt.congr {q : Nat → Bool} (h : FAt w b p) (hq : ∀ i, i < 128 → p i = q i) : FAt w b q := by
  unfold FAt at *; rw [h, flagsA_congr hq]
end

theorem bitB_test (n k : Nat) : bitB n k = n.testBit k := (Nat.testBit_eq_decide_div_mod_eq).symm
set_option maxRecDepth 100000 in
theorem rset_any (a b r : Nat) (w : World) (ha : a < 18446744073709551616) (hb : b < 18446744073709551616) (hr : r < 128) :
    Calls Try.prog 11 #[.agg #[.int .u64 (a : Int), .int .u64 (b : Int)], .int .i64 (r : Int)] w fun e w' => e = .returned (.bool (bitM a b r)) ∧ Below w.heap.size w w' := by
  by_cases h : r < 64
  · have cb := fun W => bit_any a r W (by omega) ha
    rw [bitB_test] at cb
    rw [show bitM a b r = a.testBit r from by simp [bitM, h]]
    generalize a.testBit r = q at *
    have h1 : (r : Int) / 64 = 0 := by omega
    have h2 : (r : Int) % 64 = (r : Int) := by omega
    go_enter Try.func11, Try.ntmps11
    go_wp2_with fail
    refine (cb _).mono ?_
    rintro e w1 ⟨rfl, rfl⟩
    go_wp2
    go_ret
    exact ⟨rfl, (Below.refl _ _).alloc (Nat.le_refl _) _⟩
  · obtain ⟨s, rfl⟩ : ∃ s, r = s + 64 := ⟨r - 64, by omega⟩
    have cb := fun W => bit_any b s W (by omega) hb
    rw [bitB_test] at cb
    rw [show bitM a b (s + 64) = b.testBit s from by simp only [bitM, if_neg h, Nat.add_sub_cancel]]
    generalize b.testBit s = q at *
    have h1 : ((s + 64 : Nat) : Int) / 64 = 1 := by omega
    have h2 : ((s + 64 : Nat) : Int) % 64 = (s : Int) := by omega
    generalize ((s + 64 : Nat) : Int) = x at *
    have h3 : 0 ≤ x ∧ x < 128 := by omega
    obtain ⟨h4, h5⟩ := h3
    go_enter Try.func11, Try.ntmps11
    go_wp2_with fail
    refine (cb _).mono ?_
    rintro e w1 ⟨rfl, rfl⟩
    go_wp2
    go_ret
    exact ⟨rfl, (Below.refl _ _).alloc (Nat.le_refl _) _⟩
set_option maxRecDepth 100000 in
theorem rset_no (a b : Nat) (x : Int) (w : World) (hx : ¬ (0 ≤ x ∧ x < 128)) :
    Calls Try.prog 11 #[.agg #[.int .u64 (a : Int), .int .u64 (b : Int)], .int .i64 x] w fun e w' => e = .returned (.bool false) ∧ Below w.heap.size w w' := by
  by_cases h : x < 0
  · go_enter Try.func11, Try.ntmps11
    go_wp2
    go_ret
    exact ⟨rfl, (Below.refl _ _).alloc (Nat.le_refl _) _⟩
  · have h2 : 127 < x := by omega
    go_enter Try.func11, Try.ntmps11
    go_wp2
    go_ret
    exact ⟨rfl, (Below.refl _ _).alloc (Nat.le_refl _) _⟩
theorem cnt_half (a b k : Nat) (h : k < 128) : cnt (bitM a b) (k + 1) = cnt (bitM a b) k + (bitM a b k).toNat := rfl
set_option maxRecDepth 100000 in
theorem rcount_any (a b : Nat) (w : World) (ha : a < 18446744073709551616) (hb : b < 18446744073709551616) :
    Calls Try.prog 18 #[.agg #[.int .u64 (a : Int), .int .u64 (b : Int)], .int .i64 128] w fun e w' => e = .returned (.int .i64 (popM a b : Nat)) ∧ Below w.heap.size w w' := by
  have hbw : Below w.heap.size w (w.alloc (.cells #[.int .u64 (a : Int), .int .u64 (b : Int)] 24)) := (Below.refl _ _).alloc (Nat.le_refl _) _
  have m0 := MAt.mk_ w a b
  go_enter Try.func18, Try.ntmps18
  go_wp2
  go_loopw [5, 6] (fun v i wr => ∃ k n : Nat, k ≤ 128 ∧ i = .int .i64 k ∧ v = .int .i64 n ∧ n = cnt (bitM a b) k ∧ MAt wr w.heap.size a b ∧ Below w.heap.size w wr) (fun _ i _ => 128 - (intOf i).toNat)
  case atStart => exact ⟨0, 0, by omega, rfl, rfl, rfl, m0, hbw⟩
  case round =>
    obtain ⟨k, n, hk, rfl, rfl, hn, q0, hb1⟩ := hrel
    clear m0 hbw
    have hle := cnt_le (bitM a b) k
    rw [← hn] at hle
    by_cases hlt : k < 128
    · have cs := fun W => rset_any a b k W ha hb hlt
      have hs := cnt_half a b k hlt
      rw [← hn] at hs
      have HS := hide hs
      clear hs hn
      generalize bitM a b k = q at *
      have d0 := q0.c0
      have d1 := q0.c1
      have hd1 : decide ((k : Int) < 128) = true := decide_eq_true (by omega)
      go_wp2_with fail
      refine (cs _).mono ?_
      rintro e w1 ⟨rfl, hb2⟩
      have p0 := q0.later hb2
      have hb3 := hb1.trans (hb2.mono hb1.size)
      clear hb1 hb2 cs q0 d0 d1
      cases q
      · go_wp2_with fail
        go_roundw
        case rel => exact ⟨k + 1, n, by omega, by go_num, rfl, by rw [HS.out]; rfl, p0, hb3⟩
        case measure => simp [intOf]; omega
      · go_wp2_with fail
        go_roundw
        case rel => exact ⟨k + 1, n + 1, by omega, by go_num, by go_num, by rw [HS.out]; rfl, p0, hb3⟩
        case measure => simp [intOf]; omega
    · obtain rfl : k = 128 := by omega
      have HN := hide hn
      clear hn
      go_wp2
      go_ret
      exact ⟨ret_int (by rw [HN.out]; rfl), hb1⟩
end Go.Proofs.Ytnaegaeicdknbaa
