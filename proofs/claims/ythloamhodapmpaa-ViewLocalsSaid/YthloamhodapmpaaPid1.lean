/-
  Contracts of layer 3: processes and ballots as numbers.
-/
import Derived.Test.YthloamhodapmpaaOpen
import Derived.Test.YthloamhodapmpaaReg1
import Derived.Outline
namespace Go.Proofs.Ythloamhodapmpaa
open Go.RowKit
set_option linter.unusedVariables false
set_option linter.unusedSimpArgs false

/-- A process as a value. -/
def aheadB (i c j d : Nat) : Bool := decide (i * 4294967296 + c < j * 4294967296 + d)
theorem aheadB_eq (i c j d : Nat) (hc : c < 4294967296) (hd : d < 4294967296) : aheadB i c j d = if i = j then decide (c < d) else decide (i < j) := by
  unfold aheadB
  by_cases h : i = j
  · subst h; rw [if_pos rfl]; congr 1; apply propext; omega
  · rw [if_neg h]; congr 1; apply propext; omega
def beforeB (r i c s j d : Nat) : Bool := if r = s then aheadB i c j d else decide (r < s)
theorem or_join (k x y : Nat) (hy : y < 2 ^ k) : x * 2 ^ k ||| y = x * 2 ^ k + y := by
  rw [Nat.mul_comm, Nat.two_pow_add_eq_or_of_lt hy]
theorem or_32 (x y : Nat) (hx : x < 65536) (hy : y < 4294967296) : bits .or .u64 ((x : Int) * 4294967296) (y : Int) = ((x * 4294967296 + y : Nat) : Int) := by
  have h1 : ((x : Int) * 4294967296) = ((x * 4294967296 : Nat) : Int) := by omega
  rw [h1]
  show IntKind.u64.wrap ((BitVec.ofInt 64 ((x * 4294967296 : Nat) : Int) ||| BitVec.ofInt 64 (y : Int)).toNat : Int) = _
  rw [BitVec.toNat_or, BitVec.ofInt_natCast, BitVec.ofInt_natCast, BitVec.toNat_ofNat, BitVec.toNat_ofNat, Nat.mod_eq_of_lt (by omega), Nat.mod_eq_of_lt (by omega), or_join 32 _ _ (by omega), IntKind.wrap_u64]
  omega

end Go.Proofs.Ythloamhodapmpaa
