/-
  How arguments that came in are read: packets.
-/
import Derived.Test.YtkhkihobbfecoaaOpenP
namespace Go.Proofs.Ytkhkihobbfecoaa
open Go.ChangeShapes Go.WideShapes Go.RowKit
set_option linter.unusedVariables false

/-- What is known of a packet that came in. -/
structure PkOk (w : World) (k : Int) (i c j d s : Nat) (A : Option Addr) (n q : Nat) (l : List UInt8) : Prop where
  k0 : -9223372036854775808 ≤ k
  k1 : k ≤ 9223372036854775807
  hi : i < 65536
  hc : c < 4294967296
  hj : j < 65536
  hd : d < 4294967296
  hs : s < 18446744073709551616
  bs : Bs w w.heap.size A n l
  nq : n ≤ q
  room : q ≤ maxLen
theorem cells_packet : Try.prog.cellsOf 29 = 7 := by kernel_rfl
theorem cells_int : Try.prog.cellsOf 3 = 1 := by kernel_rfl
theorem cells_u64 : Try.prog.cellsOf 26 = 1 := by kernel_rfl
theorem cells_bytes : Try.prog.cellsOf 27 = 1 := by kernel_rfl
section
variable {H : Type} {enc : TypeId × Value → H} {w : World} {base : Nat} {spare : Nat → Bool} {held : Bool}
theorem trod_struct5 {P : Program} {t : TypeId} {f0 f1 f2 f3 f4 : Field} {fuel : Nat} {cs : List Value} {x : DataW H × List MemPlace} (ht : P.underlying t = some (.struct #[f0, f1, f2, f3, f4])) (h : DataW.trod enc P w base spare held fuel t cs = some x) :
    ∃ y0 y1 y2 y3 y4 n, cs.length = P.cellsOf t ∧ DataW.trod enc P w base spare held n f0.type ((cs.drop f0.offset).take (P.cellsOf f0.type)) = some y0 ∧
      DataW.trod enc P w base spare held n f1.type ((cs.drop f1.offset).take (P.cellsOf f1.type)) = some y1 ∧ DataW.trod enc P w base spare held n f2.type ((cs.drop f2.offset).take (P.cellsOf f2.type)) = some y2 ∧
      DataW.trod enc P w base spare held n f3.type ((cs.drop f3.offset).take (P.cellsOf f3.type)) = some y3 ∧ DataW.trod enc P w base spare held n f4.type ((cs.drop f4.offset).take (P.cellsOf f4.type)) = some y4 := by
  obtain ⟨xs, n, _, rfl, hl, hlen, hf⟩ := DataW.trod_struct ht h
  match xs, hlen with
  | [y0, y1, y2, y3, y4], _ => exact ⟨y0, y1, y2, y3, y4, n, hl, by simpa using hf 0 f0 rfl, by simpa using hf 1 f1 rfl, by simpa using hf 2 f2 rfl, by simpa using hf 3 f3 rfl, by simpa using hf 4 f4 rfl⟩
theorem u64_cell {fuel : Nat} {cs : List Value} {x : DataW H × List MemPlace} (h : DataW.trod enc Try.prog w base spare held fuel 26 cs = some x) : ∃ i : Nat, cs = [.int .u64 (i : Int)] ∧ i < 18446744073709551616 := by
  obtain ⟨n, rfl, _, hw⟩ := DataW.trod_int Try.underlying26 h
  have hwf := wf_u64 hw
  exact ⟨n.toNat, by rw [Int.toNat_of_nonneg hwf.1], by omega⟩
theorem bytes_cell {fuel : Nat} {v : Value} {x : DataW H × List MemPlace} (h : DataW.trod enc Try.prog w base (fun _ => true) held fuel 27 [v] = some x) : ∃ A n q l, v = .slice A n q ∧ Bs w w.heap.size A n l ∧ n ≤ q ∧ q ≤ maxLen := by
  rcases open_ints Try.underlying27 Try.underlying5 (by kernel_rfl) h with ⟨hcs, _⟩ | ⟨y, l, c, zs, hcs, _, hl, hm, hz, _, hcell, hwz⟩
  · simp only [List.cons.injEq, and_true] at hcs
    exact ⟨none, 0, 0, [], hcs, Bs.none_, Nat.le_refl _, by decide⟩
  · simp only [List.cons.injEq, and_true] at hcs
    obtain ⟨l', h1, h2, h3⟩ := isRow_bytes (a := some _) (len := l) (cap := c) (zs := zs) (w := w) (.inr ⟨_, rfl, hl, hm, by simpa using hz, hcell, hwz⟩)
    exact ⟨_, _, _, l', hcs, h1, h2, h3⟩
set_option maxRecDepth 100000 in
theorem open_packet {r : Reach} {b0 : Nat} {v : Value} {d : DataW H} {p : List MemPlace} (hv : Value.okWide Try.prog w r b0 29 v) (h : DataW.Trod enc Try.prog w base (fun _ => true) held 29 v d p) :
    ∃ (k : Int) (i c j d s : Nat) (A : Option Addr) (n q : Nat) (l : List UInt8), v = .agg #[.int .i64 (k : Int), .int .u16 (i : Int), .int .u32 (c : Int), .int .u16 (j : Int), .int .u32 (d : Int), .int .u64 (s : Int), .slice A n q] ∧ PkOk w k i c j d s A n q l := by
  obtain ⟨cs, rfl, _⟩ := okWide_struct Try.underlying29 hv
  obtain ⟨fuel, hf⟩ := h
  obtain ⟨y0, y1, y2, y3, y4, n, hl, h0, h1, h2, h3, h4⟩ := trod_struct5 Try.underlying29 hf
  rw [cells_packet] at hl
  generalize hcs : (Value.agg cs).cells.toList = L at hl h0 h1 h2 h3 h4
  match L, hl with
  | [a0, a1, a2, a3, a4, a5, a6], _ =>
    simp only [cells_int, cells_pid, cells_u64, cells_bytes, List.drop_zero, List.drop_succ_cons, List.take_succ_cons, List.take_zero] at h0 h1 h2 h3 h4
    obtain ⟨k, e0, _, hw⟩ := DataW.trod_int Try.underlying3 h0
    have hk := wf_i64 hw
    obtain ⟨i, c, e1, hi, hc⟩ := pid_cells h1
    obtain ⟨j, d, e2, hj, hd⟩ := pid_cells h2
    obtain ⟨s, e3, hs⟩ := u64_cell h3
    obtain ⟨A, n, q, l, e4, hB, hnq, hq⟩ := bytes_cell h4
    simp only [List.cons.injEq, and_true] at e0 e1 e2 e3
    obtain ⟨rfl, rfl⟩ := e1
    obtain ⟨rfl, rfl⟩ := e2
    subst e0 e3 e4
    refine ⟨k, i, c, j, d, s, A, n, q, l, ?_, ⟨hk.1, hk.2, hi, hc, hj, hd, hs, hB, hnq, hq⟩⟩
    obtain ⟨l'⟩ := cs
    simp [Value.cells] at hcs
    rw [hcs]
end
end Go.Proofs.Ytkhkihobbfecoaa
