/-
  Frames: packets in memory; the contracts of May, Check and of a form's head.
-/
import Derived.Test.YtkhkihobbfecoaaFrameM
import Derived.Deep.WholeRow
namespace Go.Proofs.Ytkhkihobbfecoaa
open Go.RowKit
set_option linter.unusedVariables false
set_option linter.unusedSimpArgs false

/-- The block b is just this packet. -/
def PkAt (w : World) (b : Nat) (k : Int) (i c j d s : Nat) (A : Option Addr) (n q : Nat) : Prop := w.heap[b]? = some (.cells #[.int .i64 (k : Int), .int .u16 (i : Int), .int .u32 (c : Int), .int .u16 (j : Int), .int .u32 (d : Int), .int .u64 (s : Int), .slice A n q] 29)
section
variable {w w' : World} {b i c j d s n q : Nat} {k : Int} {A : Option Addr}
theorem PkAt.lt (h : PkAt w b k i c j d s A n q) : b < w.heap.size := lt_of_heap h
theorem PkAt.cells (h : PkAt w b k i c j d s A n q) : w.cell? ⟨b, 0, none⟩ = some (.int .i64 k) ∧ w.cell? ⟨b, 1, none⟩ = some (.int .u16 (i : Int)) ∧ w.cell? ⟨b, 2, none⟩ = some (.int .u32 (c : Int)) ∧ w.cell? ⟨b, 3, none⟩ = some (.int .u16 (j : Int)) ∧
    w.cell? ⟨b, 4, none⟩ = some (.int .u32 (d : Int)) ∧ w.cell? ⟨b, 5, none⟩ = some (.int .u64 (s : Int)) ∧ w.cell? ⟨b, 6, none⟩ = some (.slice A n q) := by
  have hf : ∀ x, w.cell? ⟨b, x, none⟩ = (#[.int .i64 k, .int .u16 (i : Int), .int .u32 (c : Int), .int .u16 (j : Int), .int .u32 (d : Int), .int .u64 (s : Int), .slice A n q] : Array Value)[x]? := by
    intro x
    unfold PkAt at h
    simp [World.cell?, h]
  exact ⟨hf 0, hf 1, hf 2, hf 3, hf 4, hf 5, hf 6⟩
theorem PkAt.frozen (h : PkAt w b k i c j d s A n q) (x : Nat) : w.frozen? ⟨b, x, none⟩ = false := frozen_of_row w b x _ _ h
theorem PkAt.new (w : World) : PkAt (w.alloc (.cells #[.int .i64 (k : Int), .int .u16 (i : Int), .int .u32 (c : Int), .int .u16 (j : Int), .int .u32 (d : Int), .int .u64 (s : Int), .slice A n q] 29)) w.heap.size k i c j d s A n q := heap_alloc_new w _
theorem PkAt.alloc (h : PkAt w b k i c j d s A n q) (o : Obj) : PkAt (w.alloc o) b k i c j d s A n q := (Below.heap_alloc w o b h.lt).trans h
theorem PkAt.below {B : Nat} (h : PkAt w b k i c j d s A n q) (hb : Below B w w') (hg : b < B) : PkAt w' b k i c j d s A n q := (hb.block b hg).trans h
theorem PkAt.later (h : PkAt w b k i c j d s A n q) (hb : Below w.heap.size w w') : PkAt w' b k i c j d s A n q := h.below hb h.lt
theorem PkAt.drewN (h : PkAt w b k i c j d s A n q) (m : Nat) : PkAt (w.drewN m) b k i c j d s A n q := h
end

theorem may_any (i c : Nat) (w : World) (hi : i < 65536) (hc : c < 4294967296) :
    Calls Try.prog 27 #[.agg #[.int .u16 (i : Int), .int .u32 (c : Int)]] w fun e w' => e = .returned (.bool (mayB i c)) ∧ Below w.heap.size w w' := by
  unfold mayB
  by_cases h1 : i < 16
  · have t1 : decide (i < 16) = true := by simp [h1]
    have t2 : ((i : Int) < 16) = True := by simp; omega
    rw [t1]
    by_cases h2 : 0 < c
    · have t3 : decide (0 < c) = true := by simp [h2]
      have t4 : ((c : Int) != 0) = true := by simp; omega
      rw [t3]
      go_enter Try.func27, Try.ntmps27
      go_wp2
      go_ret
      exact ⟨rfl, (Below.refl _ _).alloc (Nat.le_refl _) _⟩
    · obtain rfl : c = 0 := by omega
      go_enter Try.func27, Try.ntmps27
      go_wp2
      go_ret
      exact ⟨rfl, (Below.refl _ _).alloc (Nat.le_refl _) _⟩
  · have t1 : decide (i < 16) = false := by simp [h1]
    have t2 : ((i : Int) < 16) = False := by simp; omega
    rw [t1]
    go_enter Try.func27, Try.ntmps27
    go_wp2
    go_ret
    exact ⟨rfl, (Below.refl _ _).alloc (Nat.le_refl _) _⟩
theorem rmay_any (i c : Nat) (w : World) (hi : i < 65536) (hc : c < 4294967296) :
    Calls Try.prog 26 #[.agg #[.int .u16 (i : Int), .int .u32 (c : Int)]] w fun e w' => e = .returned (.bool (mayB i c)) ∧ Below w.heap.size w w' := by
  unfold mayB
  by_cases h1 : i < 16
  · have t1 : decide (i < 16) = true := by simp [h1]
    have t2 : ((i : Int) < 16) = True := by simp; omega
    rw [t1]
    by_cases h2 : 0 < c
    · have t3 : decide (0 < c) = true := by simp [h2]
      have t4 : ((c : Int) > 0) = True := by simp; omega
      rw [t3]
      go_enter Try.func26, Try.ntmps26
      go_wp2
      go_ret
      exact ⟨rfl, (Below.refl _ _).alloc (Nat.le_refl _) _⟩
    · obtain rfl : c = 0 := by omega
      go_enter Try.func26, Try.ntmps26
      go_wp2
      go_ret
      exact ⟨rfl, (Below.refl _ _).alloc (Nat.le_refl _) _⟩
  · have t1 : decide (i < 16) = false := by simp [h1]
    have t2 : ((i : Int) < 16) = False := by simp; omega
    rw [t1]
    go_enter Try.func26, Try.ntmps26
    go_wp2
    go_ret
    exact ⟨rfl, (Below.refl _ _).alloc (Nat.le_refl _) _⟩
theorem head_any (k m : Nat) (w : World) (hk : k ≤ 3) (hm : m < 4294967296) :
    Calls Try.prog 24 #[.int .i64 (k : Int), .int .i64 (m : Int)] w fun e w' => e = .returned (.int .u64 (headN k m : Nat)) ∧ w = w' := by
  have h := head_or k m hk hm
  have w1 : IntKind.u64.wrap ((k : Int) * 4294967296) = (k : Int) * 4294967296 := by rw [IntKind.wrap_u64]; omega
  have w2 : IntKind.u64.wrap (k : Int) = (k : Int) := by rw [IntKind.wrap_u64]; omega
  have w3 : IntKind.u64.wrap (m : Int) = (m : Int) := by rw [IntKind.wrap_u64]; omega
  have H := hide h
  clear h
  go_enter Try.func24, Try.ntmps24
  go_wp2
  go_ret
  exact ⟨ret_int H.out, rfl⟩
end Go.Proofs.Ytkhkihobbfecoaa
