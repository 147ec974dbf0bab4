/-
  Masks are compared, and are keys.
-/
import Derived.Test.YthloamhodapmpaaMask4
import Derived.Maps.Own
import Derived.Maps.OwnSet
import Derived.Maps.OwnOps
import Derived.DeepKeys4
import Derived.Maps.Keyed
namespace Go.Proofs.Ythloamhodapmpaa
open Go.RowKit Go.Maps
set_option linter.unusedVariables false
set_option linter.unusedSimpArgs false

theorem rowMask : (39 : TypeId) < Try.prog.types.size := of_decide_eq_true (by kernel_rfl)
theorem wideMask : (match Try.prog.underlying 39 with | some (.array _ _) | some (.struct _) => true | _ => false) = true := by kernel_rfl
set_option maxRecDepth 100000 in
theorem lawMask : Keyed Try.prog 39 := Keyed.of_law (deep_law_laid laidOut (m := 3) (by omega) rowMask (by kernel_rfl) wideMask)
theorem keyTypeMask : Try.prog.keyType 39 = true := by kernel_rfl
theorem cellsMask : Try.prog.cellsOf 39 = 2 := by kernel_rfl
theorem cellsU64M : Try.prog.cellsOf 22 = 1 := by kernel_rfl
theorem nat_posM {n j : Nat} (h : j < n) : ∃ m, n = m + 1 := ⟨n - 1, by omega⟩
theorem typesPosM : ∃ m, Try.prog.types.size = m + 1 := nat_posM rowMask
theorem wf_mask {a : Nat} (h : a < 18446744073709551616) : (Lit.int .u64 (a : Int)).wf = true := by
  simp [Lit.wf, IntKind.min, IntKind.max, IntKind.bits, IntKind.signed]; omega
set_option maxRecDepth 100000 in
theorem lits_mask (m a b : Nat) (ha : a < 18446744073709551616) (hb : b < 18446744073709551616) : Try.prog.keyLits (m + 2) 39 [.int .u64 (a : Int), .int .u64 (b : Int)] = some [.int .u64 (a : Int), .int .u64 (b : Int)] := by
  have h1 := wf_mask ha
  have h2 := wf_mask hb
  unfold Program.keyLits
  simp [Try.underlying39, cellsMask, cellsU64M, List.range, List.range.loop, Program.keyLits, Try.underlying22, h1, h2]
theorem formed_mask (a b : Nat) : (.agg #[.int .u64 (a : Int), .int .u64 (b : Int)] : Value).formed Try.prog 39 = true := by
  simp [Value.formed, Try.underlying39, cellsMask]
set_option maxRecDepth 100000 in
theorem mask_eql (a b c d : Nat) (ha : a < 18446744073709551616) (hb : b < 18446744073709551616) (hc : c < 18446744073709551616) (hd : d < 18446744073709551616) (w : World) :
    (Op.equalIn 10000 39 (.agg #[.int .u64 (a : Int), .int .u64 (b : Int)]) (.agg #[.int .u64 (c : Int), .int .u64 (d : Int)])).run Try.prog w = .ok (decide (a = c ∧ b = d)) w := by
  obtain ⟨r, hr, hi⟩ := run_equalIn_deep 9998 2 39 (by kernel_rfl) w 2 2 (.agg #[.int .u64 (a : Int), .int .u64 (b : Int)]) (.agg #[.int .u64 (c : Int), .int .u64 (d : Int)]) _ _ (formed_mask a b) (formed_mask c d) (lits_mask 0 a b ha hb) (lits_mask 0 c d hc hd)
  rw [hr]
  congr 1
  rw [Bool.eq_iff_iff, hi]
  simp
  omega
set_option maxRecDepth 100000 in
theorem mask_self (a b : Nat) (ha : a < 18446744073709551616) (hb : b < 18446744073709551616) (w : World) :
    (Op.equalIn 10000 39 (.agg #[.int .u64 (a : Int), .int .u64 (b : Int)]) (.agg #[.int .u64 (a : Int), .int .u64 (b : Int)])).run Try.prog w = .ok true w := by
  rw [mask_eql a b a b ha hb ha hb]
  simp
end Go.Proofs.Ythloamhodapmpaa
