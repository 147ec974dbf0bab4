/-
  How arguments that came in are read: slices of integers as lists, bytes as bytes.
-/
import Derived.Test.YtdmihbicpjmgjaaDoorRows
import Derived.OpenShut
import Derived.Test.YtdmihbicpjmgjaaDoorQLib
import Derived.ChangeSame
import Derived.WideShapes
import Derived.ChangeArms
import Derived.Lib.SmallJoins
import Derived.Deep.Slices
namespace Go.Proofs.YtdmihbicpjmgjaaDoor
open Go.RowKit

theorem own : ownKnob Tryd.prog.godebug = none := by kernel_rfl
theorem laidOut : laidOutB Tryd.prog = true := by kernel_rfl

/-- What the walk is told of a slice of integers that came in: it is nil; or it leads to a row of 'cap' cells, the numbers 'zs' (the first 'len' are its elements), each fitting its kind. -/
def IsRow (k : IntKind) (w : World) (a : Option Addr) (len cap : Nat) (zs : List Int) : Prop :=
  (a = none ∧ len = 0 ∧ cap = 0 ∧ zs = []) ∨
  ∃ x, a = some x ∧ len ≤ cap ∧ cap ≤ maxLen ∧ zs.length = cap ∧ (∀ i, i < zs.length → w.cell? (x.add i) = some (.int k (zs.getD i 0))) ∧ ∀ n ∈ zs, (Lit.int k n).wf = true

theorem isRow_block {k : IntKind} {w : World} {a : Option Addr} {len cap : Nat} {zs : List Int} (h : IsRow k w a len cap zs) : ∀ x, a = some x → 0 < len → x.block < w.heap.size := by
  intro x hx hl
  rcases h with ⟨rfl, _⟩ | ⟨y, rfl, hlc, _, hz, hc, _⟩
  · cases hx
  · obtain rfl := Option.some.inj hx
    have := World.block_lt_of_cell? w _ (hc 0 (by omega))
    rwa [block_of_add] at this

theorem wf_u8 {n : Int} (h : (Lit.int .u8 n).wf = true) : 0 ≤ n ∧ n ≤ 255 := by
  simp [Lit.wf, IntKind.min, IntKind.max, IntKind.bits, IntKind.signed] at h; omega
theorem wf_u64 {n : Int} (h : (Lit.int .u64 n).wf = true) : 0 ≤ n ∧ n ≤ 18446744073709551615 := by
  simp [Lit.wf, IntKind.min, IntKind.max, IntKind.bits, IntKind.signed] at h; omega
theorem wf_i64 {n : Int} (h : (Lit.int .i64 n).wf = true) : -9223372036854775808 ≤ n ∧ n ≤ 9223372036854775807 := by
  simp [Lit.wf, IntKind.min, IntKind.max, IntKind.bits, IntKind.signed] at h; omega

/-- A row of bytes that came in reads as a list of bytes, as far as its length goes. -/
theorem isRow_bytes {w : World} {a : Option Addr} {len cap : Nat} {zs : List Int} (h : IsRow .u8 w a len cap zs) : ∃ l : List UInt8, Bs w w.heap.size a len l ∧ len ≤ cap ∧ cap ≤ maxLen := by
  have hb := isRow_block h
  rcases h with ⟨rfl, rfl, rfl, rfl⟩ | ⟨x, rfl, hlc, hm, hz, hc, hw⟩
  · exact ⟨[], Bs.none_, Nat.le_refl _, by decide⟩
  · refine ⟨(zs.take len).map (fun n => UInt8.ofNat n.toNat), ⟨by simp; omega, fun hl => ⟨x, rfl, hb x rfl hl, fun j y hj => ?_⟩⟩, hlc, hm⟩
    rw [List.getElem?_map, Option.map_eq_some_iff] at hj
    obtain ⟨n, hn, rfl⟩ := hj
    rw [List.getElem?_take] at hn
    split at hn
    · obtain ⟨hj, rfl⟩ := List.getElem?_eq_some_iff.1 hn
      have hwf := wf_u8 (hw zs[j] (List.getElem_mem hj))
      rw [hc j hj, byteV]
      have e : zs.getD j 0 = zs[j] := by simp [List.getD, hj]
      rw [e]
      congr 2
      simp
      omega
    · cases hn
end Go.Proofs.YtdmihbicpjmgjaaDoor
namespace Go.Proofs.YtdmihbicpjmgjaaDoor
open Go.ChangeShapes Go.WideShapes Go.RowKit
theorem wf_u16 {n : Int} (h : (Lit.int .u16 n).wf = true) : 0 ≤ n ∧ n ≤ 65535 := by
  simp [Lit.wf, IntKind.min, IntKind.max, IntKind.bits, IntKind.signed] at h; omega
theorem wf_u32 {n : Int} (h : (Lit.int .u32 n).wf = true) : 0 ≤ n ∧ n ≤ 4294967295 := by
  simp [Lit.wf, IntKind.min, IntKind.max, IntKind.bits, IntKind.signed] at h; omega
theorem cells_pid : Tryd.prog.cellsOf 25 = 2 := by kernel_rfl
theorem cells_u16 : Tryd.prog.cellsOf 22 = 1 := by kernel_rfl
theorem cells_u32 : Tryd.prog.cellsOf 23 = 1 := by kernel_rfl
section
variable {H : Type} {enc : TypeId × Value → H} {w : World} {base : Nat} {spare : Nat → Bool} {held : Bool}
theorem u16_cell {fuel : Nat} {cs : List Value} {x : DataW H × List MemPlace} (h : DataW.trod enc Tryd.prog w base spare held fuel 22 cs = some x) : ∃ i : Nat, cs = [.int .u16 (i : Int)] ∧ i < 65536 := by
  obtain ⟨n, rfl, _, hw⟩ := DataW.trod_int Tryd.underlying22 h
  have hb := wf_u16 hw
  obtain ⟨i, rfl⟩ := Int.eq_ofNat_of_zero_le hb.1
  exact ⟨i, rfl, by omega⟩
theorem u32_cell {fuel : Nat} {cs : List Value} {x : DataW H × List MemPlace} (h : DataW.trod enc Tryd.prog w base spare held fuel 23 cs = some x) : ∃ i : Nat, cs = [.int .u32 (i : Int)] ∧ i < 4294967296 := by
  obtain ⟨n, rfl, _, hw⟩ := DataW.trod_int Tryd.underlying23 h
  have hb := wf_u32 hw
  obtain ⟨i, rfl⟩ := Int.eq_ofNat_of_zero_le hb.1
  exact ⟨i, rfl, by omega⟩
set_option maxRecDepth 100000 in
theorem pid_cells {fuel : Nat} {cs : List Value} {x : DataW H × List MemPlace} (h : DataW.trod enc Tryd.prog w base spare held fuel 25 cs = some x) :
    ∃ i c : Nat, cs = [.int .u16 (i : Int), .int .u32 (c : Int)] ∧ i < 65536 ∧ c < 4294967296 := by
  obtain ⟨y0, y1, n, _, hl, h0, h1⟩ := trod_struct2 Tryd.underlying25 h
  rw [cells_pid] at hl
  match cs, hl with
  | [a, b], _ =>
    simp only [cells_u16, cells_u32, List.drop_zero, List.drop_succ_cons, List.take_succ_cons, List.take_zero] at h0 h1
    obtain ⟨i, e0, hi⟩ := u16_cell h0
    obtain ⟨c, e1, hc⟩ := u32_cell h1
    simp only [List.cons.injEq, and_true] at e0 e1
    subst e0; subst e1
    exact ⟨i, c, rfl, hi, hc⟩
set_option maxRecDepth 100000 in
theorem open_pid {r : Reach} {b0 : Nat} {v : Value} {d : DataW H} {p : List MemPlace} (hv : Value.okWide Tryd.prog w r b0 25 v) (h : DataW.Trod enc Tryd.prog w base spare held 25 v d p) :
    ∃ i c : Nat, v = .agg #[.int .u16 (i : Int), .int .u32 (c : Int)] ∧ i < 65536 ∧ c < 4294967296 := by
  obtain ⟨cs, rfl, _⟩ := okWide_struct Tryd.underlying25 hv
  obtain ⟨fuel, hf⟩ := h
  obtain ⟨i, c, e, hi, hc⟩ := pid_cells hf
  refine ⟨i, c, ?_, hi, hc⟩
  obtain ⟨l⟩ := cs
  simp [Value.cells] at e
  rw [e]
/-- A slice of processes that came in: the cells of each, two a process. -/
theorem open_pids {fuel : Nat} {cs : List Value} {x : DataW H × List MemPlace} (h : DataW.trod enc Tryd.prog w base spare held fuel 28 cs = some x) :
    cs = [.slice none 0 0] ∨ ∃ (a : Addr) (len cap : Nat), cs = [.slice (some a) len cap] ∧ len ≤ cap ∧ cap ≤ maxLen ∧
      ∀ i, i < len → ∃ j c : Nat, w.cell? (a.add (i * 2)) = some (.int .u16 (j : Int)) ∧ w.cell? (a.add (i * 2 + 1)) = some (.int .u32 (c : Int)) ∧ j < 65536 ∧ c < 4294967296 := by
  rcases Go.Deep.open_slice Tryd.underlying28 h with ⟨h0, _⟩ | ⟨a, len, cap, m, n, D, Pl, rfl, _, hl, hm, hmm, _, hi⟩
  · exact .inl h0
  · refine .inr ⟨a, len, cap, rfl, hl, hm, fun i hlt => ?_⟩
    obtain ⟨cs', hc, ht⟩ := hi i (by rw [hmm]; split <;> omega)
    rw [cells_pid] at hc
    obtain ⟨j, c, rfl, hj, hcc⟩ := pid_cells ht
    obtain ⟨_, _, hat⟩ := World.cells?_some hc
    have e0 := hat 0 (by decide)
    have e1 := hat 1 (by decide)
    refine ⟨j, c, ?_, ?_, hj, hcc⟩
    · simpa [add_of_add] using e0
    · simpa [add_of_add] using e1
end
end Go.Proofs.YtdmihbicpjmgjaaDoor
namespace Go.Proofs.YtdmihbicpjmgjaaDoor
open Go.ChangeShapes Go.WideShapes Go.RowKit
set_option linter.unusedVariables false

/-- What is known of a packet that came in. -/
structure PkOk (w : World) (k : Int) (i c j d s : Nat) (A : Option Addr) (n q : Nat) (l : List UInt8) : Prop where
  k0 : -9223372036854775808 ≤ k
  k1 : k ≤ 9223372036854775807
  hi : i < 65536
  hc : c < 4294967296
  hj : j < 65536
  hd : d < 4294967296
  hs : s < 18446744073709551616
  bs : Bs w w.heap.size A n l
  nq : n ≤ q
  room : q ≤ maxLen
theorem cells_int : Tryd.prog.cellsOf 3 = 1 := by kernel_rfl
theorem cells_u64 : Tryd.prog.cellsOf 26 = 1 := by kernel_rfl
theorem cells_bytes : Tryd.prog.cellsOf 27 = 1 := by kernel_rfl
section
variable {H : Type} {enc : TypeId × Value → H} {w : World} {base : Nat} {spare : Nat → Bool} {held : Bool}
theorem trod_struct5 {P : Program} {t : TypeId} {f0 f1 f2 f3 f4 : Field} {fuel : Nat} {cs : List Value} {x : DataW H × List MemPlace} (ht : P.underlying t = some (.struct #[f0, f1, f2, f3, f4])) (h : DataW.trod enc P w base spare held fuel t cs = some x) :
    ∃ y0 y1 y2 y3 y4 n, cs.length = P.cellsOf t ∧ DataW.trod enc P w base spare held n f0.type ((cs.drop f0.offset).take (P.cellsOf f0.type)) = some y0 ∧
      DataW.trod enc P w base spare held n f1.type ((cs.drop f1.offset).take (P.cellsOf f1.type)) = some y1 ∧ DataW.trod enc P w base spare held n f2.type ((cs.drop f2.offset).take (P.cellsOf f2.type)) = some y2 ∧
      DataW.trod enc P w base spare held n f3.type ((cs.drop f3.offset).take (P.cellsOf f3.type)) = some y3 ∧ DataW.trod enc P w base spare held n f4.type ((cs.drop f4.offset).take (P.cellsOf f4.type)) = some y4 := by
  obtain ⟨xs, n, _, rfl, hl, hlen, hf⟩ := DataW.trod_struct ht h
  match xs, hlen with
  | [y0, y1, y2, y3, y4], _ => exact ⟨y0, y1, y2, y3, y4, n, hl, by simpa using hf 0 f0 rfl, by simpa using hf 1 f1 rfl, by simpa using hf 2 f2 rfl, by simpa using hf 3 f3 rfl, by simpa using hf 4 f4 rfl⟩
theorem u64_cell {fuel : Nat} {cs : List Value} {x : DataW H × List MemPlace} (h : DataW.trod enc Tryd.prog w base spare held fuel 26 cs = some x) : ∃ i : Nat, cs = [.int .u64 (i : Int)] ∧ i < 18446744073709551616 := by
  obtain ⟨n, rfl, _, hw⟩ := DataW.trod_int Tryd.underlying26 h
  have hwf := wf_u64 hw
  exact ⟨n.toNat, by rw [Int.toNat_of_nonneg hwf.1], by omega⟩
theorem bytes_cell {fuel : Nat} {v : Value} {x : DataW H × List MemPlace} (h : DataW.trod enc Tryd.prog w base (fun _ => true) held fuel 27 [v] = some x) : ∃ A n q l, v = .slice A n q ∧ Bs w w.heap.size A n l ∧ n ≤ q ∧ q ≤ maxLen := by
  rcases open_ints Tryd.underlying27 Tryd.underlying5 (by kernel_rfl) h with ⟨hcs, _⟩ | ⟨y, l, c, zs, hcs, _, hl, hm, hz, _, hcell, hwz⟩
  · simp only [List.cons.injEq, and_true] at hcs
    exact ⟨none, 0, 0, [], hcs, Bs.none_, Nat.le_refl _, by decide⟩
  · simp only [List.cons.injEq, and_true] at hcs
    obtain ⟨l', h1, h2, h3⟩ := isRow_bytes (a := some _) (len := l) (cap := c) (zs := zs) (w := w) (.inr ⟨_, rfl, hl, hm, by simpa using hz, hcell, hwz⟩)
    exact ⟨_, _, _, l', hcs, h1, h2, h3⟩
end
end Go.Proofs.YtdmihbicpjmgjaaDoor
