/-
  How arguments that came in are read: slices of integers as lists, bytes as bytes.
-/
import Derived.Test.YthloamhodapmpaaRows
import Derived.Test.YthloamhodapmpaaLib
import Derived.OpenShut
namespace Go.Proofs.Ythloamhodapmpaa
open Go.RowKit

theorem own : ownKnob Try.prog.godebug = none := by kernel_rfl
theorem laidOut : laidOutB Try.prog = true := by kernel_rfl

/-- What the walk is told of a slice of integers that came in: it is nil; or it leads to a row of 'cap' cells, the numbers 'zs' (the first 'len' are its elements), each fitting its kind. -/
def IsRow (k : IntKind) (w : World) (a : Option Addr) (len cap : Nat) (zs : List Int) : Prop :=
  (a = none ∧ len = 0 ∧ cap = 0 ∧ zs = []) ∨
  ∃ x, a = some x ∧ len ≤ cap ∧ cap ≤ maxLen ∧ zs.length = cap ∧ (∀ i, i < zs.length → w.cell? (x.add i) = some (.int k (zs.getD i 0))) ∧ ∀ n ∈ zs, (Lit.int k n).wf = true

theorem isRow_block {k : IntKind} {w : World} {a : Option Addr} {len cap : Nat} {zs : List Int} (h : IsRow k w a len cap zs) : ∀ x, a = some x → 0 < len → x.block < w.heap.size := by
  intro x hx hl
  rcases h with ⟨rfl, _⟩ | ⟨y, rfl, hlc, _, hz, hc, _⟩
  · cases hx
  · obtain rfl := Option.some.inj hx
    have := World.block_lt_of_cell? w _ (hc 0 (by omega))
    rwa [block_of_add] at this

theorem wf_u8 {n : Int} (h : (Lit.int .u8 n).wf = true) : 0 ≤ n ∧ n ≤ 255 := by
  simp [Lit.wf, IntKind.min, IntKind.max, IntKind.bits, IntKind.signed] at h; omega
theorem wf_u64 {n : Int} (h : (Lit.int .u64 n).wf = true) : 0 ≤ n ∧ n ≤ 18446744073709551615 := by
  simp [Lit.wf, IntKind.min, IntKind.max, IntKind.bits, IntKind.signed] at h; omega
theorem wf_i64 {n : Int} (h : (Lit.int .i64 n).wf = true) : -9223372036854775808 ≤ n ∧ n ≤ 9223372036854775807 := by
  simp [Lit.wf, IntKind.min, IntKind.max, IntKind.bits, IntKind.signed] at h; omega

/-- A row of bytes that came in reads as a list of bytes, as far as its length goes. -/
theorem isRow_bytes {w : World} {a : Option Addr} {len cap : Nat} {zs : List Int} (h : IsRow .u8 w a len cap zs) : ∃ l : List UInt8, Bs w w.heap.size a len l ∧ len ≤ cap ∧ cap ≤ maxLen := by
  have hb := isRow_block h
  rcases h with ⟨rfl, rfl, rfl, rfl⟩ | ⟨x, rfl, hlc, hm, hz, hc, hw⟩
  · exact ⟨[], Bs.none_, Nat.le_refl _, by decide⟩
  · refine ⟨(zs.take len).map (fun n => UInt8.ofNat n.toNat), ⟨by simp; omega, fun hl => ⟨x, rfl, hb x rfl hl, fun j y hj => ?_⟩⟩, hlc, hm⟩
    rw [List.getElem?_map, Option.map_eq_some_iff] at hj
    obtain ⟨n, hn, rfl⟩ := hj
    rw [List.getElem?_take] at hn
    split at hn
    · obtain ⟨hj, rfl⟩ := List.getElem?_eq_some_iff.1 hn
      have hwf := wf_u8 (hw zs[j] (List.getElem_mem hj))
      rw [hc j hj, byteV]
      have e : zs.getD j 0 = zs[j] := by simp [List.getD, hj]
      rw [e]
      congr 2
      simp
      omega
    · cases hn
end Go.Proofs.Ythloamhodapmpaa
