/-
  Layer 5: variables of 128 bools in flow regions, whole rows stored.
-/
import Derived.Test.YtnaegaeicdknbaaMask7
import Derived.Test.YtnaegaeicdknbaaFlowA
import Derived.Test.YtnaegaeicdknbaaQRow
namespace Go.Proofs.Ytnaegaeicdknbaa
open Go.RowKit
theorem zeroFlagsO : ∀ w, (zeroValue 26).run Try.prog w = .ok (.agg (flagsA fun _ => false)) w := zeroFlags
theorem newW_fat {v : Value} {w : World} {B : Nat} (h : NewW 26 (Value.agg (flagsA fun _ => false)).cells B v w) : ∃ g, v = .pointer (some ⟨g, 0, none⟩) ∧ B ≤ g ∧ FAt w g (fun _ => false) := h
theorem FAt.row {w : World} {b : Nat} {p : Nat → Bool} (h : FAt w b p) (q : Nat → Bool) : FAt (w.setRow b (flagsA q)) b q := setRow_heap w _ _ _ _ _ h
theorem FAt.rowO {w : World} {b g : Nat} {p : Nat → Bool} (h : FAt w b p) (cs : Array Value) (hn : b ≠ g) : FAt (w.setRow g cs) b p := (setRow_heap_other w g cs b hn).trans h
theorem MAt.rowO {w : World} {b g x y : Nat} (h : MAt w b x y) (cs : Array Value) (hn : b ≠ g) : MAt (w.setRow g cs) b x y := (setRow_heap_other w g cs b hn).trans h
theorem laid_is (a b r : Nat) (v : Bool) (A B : Nat) (hA : A < 18446744073709551616) (hB : B < 18446744073709551616) (h : ∀ i, i < 128 → bitM A B i = if i = r then v else bitM a b i) :
    loM (fun j => if j = r then v else bitM a b j) = A ∧ hiM (fun j => if j = r then v else bitM a b j) = B := mask_of hA hB h
end Go.Proofs.Ytnaegaeicdknbaa
