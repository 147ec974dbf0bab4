/-
  How arguments that came in are read: processes and ballots.
-/
import Derived.Test.YthloamhodapmpaaOpen
import Derived.ChangeSame
import Derived.WideShapes
import Derived.ChangeArms
import Derived.Lib.SmallJoins
import Derived.Deep.Slices
namespace Go.Proofs.Ythloamhodapmpaa
open Go.ChangeShapes Go.WideShapes Go.RowKit
theorem wf_u16 {n : Int} (h : (Lit.int .u16 n).wf = true) : 0 ≤ n ∧ n ≤ 65535 := by
  simp [Lit.wf, IntKind.min, IntKind.max, IntKind.bits, IntKind.signed] at h; omega
theorem wf_u32 {n : Int} (h : (Lit.int .u32 n).wf = true) : 0 ≤ n ∧ n ≤ 4294967295 := by
  simp [Lit.wf, IntKind.min, IntKind.max, IntKind.bits, IntKind.signed] at h; omega
theorem cells_pid : Try.prog.cellsOf 34 = 2 := by kernel_rfl
theorem cells_u16 : Try.prog.cellsOf 31 = 1 := by kernel_rfl
theorem cells_u32 : Try.prog.cellsOf 32 = 1 := by kernel_rfl
section
variable {H : Type} {enc : TypeId × Value → H} {w : World} {base : Nat} {spare : Nat → Bool} {held : Bool}
theorem u16_cell {fuel : Nat} {cs : List Value} {x : DataW H × List MemPlace} (h : DataW.trod enc Try.prog w base spare held fuel 31 cs = some x) : ∃ i : Nat, cs = [.int .u16 (i : Int)] ∧ i < 65536 := by
  obtain ⟨n, rfl, _, hw⟩ := DataW.trod_int Try.underlying31 h
  have hb := wf_u16 hw
  obtain ⟨i, rfl⟩ := Int.eq_ofNat_of_zero_le hb.1
  exact ⟨i, rfl, by omega⟩
theorem u32_cell {fuel : Nat} {cs : List Value} {x : DataW H × List MemPlace} (h : DataW.trod enc Try.prog w base spare held fuel 32 cs = some x) : ∃ i : Nat, cs = [.int .u32 (i : Int)] ∧ i < 4294967296 := by
  obtain ⟨n, rfl, _, hw⟩ := DataW.trod_int Try.underlying32 h
  have hb := wf_u32 hw
  obtain ⟨i, rfl⟩ := Int.eq_ofNat_of_zero_le hb.1
  exact ⟨i, rfl, by omega⟩
set_option maxRecDepth 100000 in
theorem pid_cells {fuel : Nat} {cs : List Value} {x : DataW H × List MemPlace} (h : DataW.trod enc Try.prog w base spare held fuel 34 cs = some x) :
    ∃ i c : Nat, cs = [.int .u16 (i : Int), .int .u32 (c : Int)] ∧ i < 65536 ∧ c < 4294967296 := by
  obtain ⟨y0, y1, n, _, hl, h0, h1⟩ := trod_struct2 Try.underlying34 h
  rw [cells_pid] at hl
  match cs, hl with
  | [a, b], _ =>
    simp only [cells_u16, cells_u32, List.drop_zero, List.drop_succ_cons, List.take_succ_cons, List.take_zero] at h0 h1
    obtain ⟨i, e0, hi⟩ := u16_cell h0
    obtain ⟨c, e1, hc⟩ := u32_cell h1
    simp only [List.cons.injEq, and_true] at e0 e1
    subst e0; subst e1
    exact ⟨i, c, rfl, hi, hc⟩
set_option maxRecDepth 100000 in
theorem open_pid {r : Reach} {b0 : Nat} {v : Value} {d : DataW H} {p : List MemPlace} (hv : Value.okWide Try.prog w r b0 34 v) (h : DataW.Trod enc Try.prog w base spare held 34 v d p) :
    ∃ i c : Nat, v = .agg #[.int .u16 (i : Int), .int .u32 (c : Int)] ∧ i < 65536 ∧ c < 4294967296 := by
  obtain ⟨cs, rfl, _⟩ := okWide_struct Try.underlying34 hv
  obtain ⟨fuel, hf⟩ := h
  obtain ⟨i, c, e, hi, hc⟩ := pid_cells hf
  refine ⟨i, c, ?_, hi, hc⟩
  obtain ⟨l⟩ := cs
  simp [Value.cells] at e
  rw [e]
/-- A slice of processes that came in: the cells of each, two a process. -/
theorem open_pids {fuel : Nat} {cs : List Value} {x : DataW H × List MemPlace} (h : DataW.trod enc Try.prog w base spare held fuel 23 cs = some x) :
    cs = [.slice none 0 0] ∨ ∃ (a : Addr) (len cap : Nat), cs = [.slice (some a) len cap] ∧ len ≤ cap ∧ cap ≤ maxLen ∧
      ∀ i, i < len → ∃ j c : Nat, w.cell? (a.add (i * 2)) = some (.int .u16 (j : Int)) ∧ w.cell? (a.add (i * 2 + 1)) = some (.int .u32 (c : Int)) ∧ j < 65536 ∧ c < 4294967296 := by
  rcases Go.Deep.open_slice Try.underlying23 h with ⟨h0, _⟩ | ⟨a, len, cap, m, n, D, Pl, rfl, _, hl, hm, hmm, _, hi⟩
  · exact .inl h0
  · refine .inr ⟨a, len, cap, rfl, hl, hm, fun i hlt => ?_⟩
    obtain ⟨cs', hc, ht⟩ := hi i (by rw [hmm]; split <;> omega)
    rw [cells_pid] at hc
    obtain ⟨j, c, rfl, hj, hcc⟩ := pid_cells ht
    obtain ⟨_, _, hat⟩ := World.cells?_some hc
    have e0 := hat 0 (by decide)
    have e1 := hat 1 (by decide)
    refine ⟨j, c, ?_, ?_, hj, hcc⟩
    · simpa [add_of_add] using e0
    · simpa [add_of_add] using e1
end
end Go.Proofs.Ythloamhodapmpaa
