/-
  Contracts of layer 3: processes and ballots as numbers.
-/
import Derived.Test.YtfjefhmpfnnmeaaOpen
import Derived.Test.YtfjefhmpfnnmeaaReg1
import Derived.Outline
namespace Go.Proofs.Ytfjefhmpfnnmeaa
open Go.RowKit
set_option linter.unusedVariables false
set_option linter.unusedSimpArgs false

/-- A process as a value. -/
def aheadB (i c j d : Nat) : Bool := decide (i * 4294967296 + c < j * 4294967296 + d)
theorem aheadB_eq (i c j d : Nat) (hc : c < 4294967296) (hd : d < 4294967296) : aheadB i c j d = if i = j then decide (c < d) else decide (i < j) := by
  unfold aheadB
  by_cases h : i = j
  · subst h; rw [if_pos rfl]; congr 1; apply propext; omega
  · rw [if_neg h]; congr 1; apply propext; omega
def beforeB (r i c s j d : Nat) : Bool := if r = s then aheadB i c j d else decide (r < s)
theorem or_join (k x y : Nat) (hy : y < 2 ^ k) : x * 2 ^ k ||| y = x * 2 ^ k + y := by
  rw [Nat.mul_comm, Nat.two_pow_add_eq_or_of_lt hy]
theorem or_32 (x y : Nat) (hx : x < 65536) (hy : y < 4294967296) : bits .or .u64 ((x : Int) * 4294967296) (y : Int) = ((x * 4294967296 + y : Nat) : Int) := by
  have h1 : ((x : Int) * 4294967296) = ((x * 4294967296 : Nat) : Int) := by omega
  rw [h1]
  show IntKind.u64.wrap ((BitVec.ofInt 64 ((x * 4294967296 : Nat) : Int) ||| BitVec.ofInt 64 (y : Int)).toNat : Int) = _
  rw [BitVec.toNat_or, BitVec.ofInt_natCast, BitVec.ofInt_natCast, BitVec.toNat_ofNat, BitVec.toNat_ofNat, Nat.mod_eq_of_lt (by omega), Nat.mod_eq_of_lt (by omega), or_join 32 _ _ (by omega), IntKind.wrap_u64]
  omega

theorem number_any (i c : Nat) (w : World) (hi : i < 65536) (hc : c < 4294967296) :
    Calls Try.prog 32 #[.agg #[.int .u16 (i : Int), .int .u32 (c : Int)]] w fun e w' => e = .returned (.int .u64 ((i * 4294967296 + c : Nat) : Int)) ∧ Below w.heap.size w w' := by
  go_enter Try.func32, Try.ntmps32
  go_wp2
  go_ret
  exact ⟨ret_int (or_32 i c hi hc), (Below.refl _ _).alloc (Nat.le_refl _) _⟩
theorem rahead_any (i c j d : Nat) (w : World) (hi : i < 65536) (hc : c < 4294967296) (hj : j < 65536) (hd : d < 4294967296) :
    Calls Try.prog 26 #[.agg #[.int .u16 (i : Int), .int .u32 (c : Int)], .agg #[.int .u16 (j : Int), .int .u32 (d : Int)]] w fun e w' => e = .returned (.bool (aheadB i c j d)) ∧ Below w.heap.size w w' := by
  by_cases h : i = j
  · subst h
    have hr : aheadB i c i d = decide (c < d) := by rw [aheadB_eq _ _ _ _ hc hd, if_pos rfl]
    rw [hr]
    clear hr
    go_enter Try.func26, Try.ntmps26
    go_wp2
    go_ret
    exact ⟨rfl, ((Below.refl _ _).alloc (Nat.le_refl _) _).alloc (by simp) _⟩
  · have hr : aheadB i c j d = decide (i < j) := by rw [aheadB_eq _ _ _ _ hc hd, if_neg h]
    have hne : ((i : Int) != (j : Int)) = true := by simp; omega
    rw [hr]
    clear hr
    go_enter Try.func26, Try.ntmps26
    go_wp2
    go_ret
    exact ⟨rfl, ((Below.refl _ _).alloc (Nat.le_refl _) _).alloc (by simp) _⟩
end Go.Proofs.Ytfjefhmpfnnmeaa
