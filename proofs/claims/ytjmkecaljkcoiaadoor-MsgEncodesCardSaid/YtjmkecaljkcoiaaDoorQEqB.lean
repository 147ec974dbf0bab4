import Derived.Laws.BytesArg
import Derived.Test.YtjmkecaljkcoiaaDoorQBytes1
namespace Go.Proofs.YtjmkecaljkcoiaaDoor
open Go.RowKit
set_option linter.unusedVariables false
set_option linter.unusedSimpArgs false
def strB (l : List UInt8) : ByteArray := ⟨l.toArray⟩
theorem conv_bytes (A : Option Addr) (n c : Nat) (l : List UInt8) (B : Nat) (w : World) (hA : Bs w B A n l) :
    (convert 29 9 (.slice A n c)).run Tryd.prog w = .ok (.string (strB l)) w := by
  cases A with
  | none =>
    have hl : l = [] := by
      rcases Nat.eq_zero_or_pos n with h0 | h0
      · exact List.eq_nil_of_length_eq_zero (by rw [hA.len, h0])
      · obtain ⟨ad, e, _⟩ := hA.2 h0; cases e
    subst hl
    exact run_convert_bytes_nil w 29 5 Tryd.underlying29 Tryd.underlying5 n c _ Tryd.underlying9
  | some ad =>
    have hcell : ∀ j v, (l.map byteV)[j]? = some v → w.cell? (ad.add j) = some v := by
      intro j v hv
      have hn : 0 < n := by
        rcases Nat.eq_zero_or_pos n with h0 | h0
        · have : l = [] := List.eq_nil_of_length_eq_zero (by rw [hA.len, h0])
          subst this; simp at hv
        · exact h0
      obtain ⟨ad', e, _, hc⟩ := hA.2 hn
      obtain rfl := Option.some.inj e
      rw [List.getElem?_map, Option.map_eq_some_iff] at hv
      obtain ⟨x, hx, rfl⟩ := hv
      exact hc j x hx
    have hload := run_loadCells_list (P := Tryd.prog) w ad (l.map byteV) hcell
    have e1 : (l.map byteV) = (l.map fun x => (x.toNat : Int)).map (Value.int .u8) := by
      rw [List.map_map]; rfl
    rw [List.length_map, hA.len, e1] at hload
    rw [run_convert_bytes_string w _ _ 5 _ n c Tryd.underlying29 Tryd.underlying5 Tryd.underlying9, run_bytesToString w ad n c _ hload, foldl_push_bytes]
    congr 2
    unfold strB
    simp [ByteArray.empty, ByteArray.emptyWithCapacity]
    show List.map ((fun n : Int => UInt8.ofNat n.toNat) ∘ fun x : UInt8 => (x.toNat : Int)) l = l
    conv => rhs; rw [← List.map_id l]
    refine List.map_congr_left fun x _ => ?_
    simp
theorem strB_eq (l m : List UInt8) : ((strB l).toList == (strB m).toList) = sameB l m := by
  unfold sameB strB
  rw [ByteArray.toList_mk, ByteArray.toList_mk]
  by_cases h : l = m
  · subst h; simp
  · rw [decide_eq_false h, beq_eq_false_iff_ne]
    exact h
theorem equal_any (A A' : Option Addr) (n m c c' : Nat) (l l' : List UInt8) (B B' : Nat) (w : World) (hA : Bs w B A n l) (hA' : Bs w B' A' m l') :
    Calls Tryd.prog 47 #[.slice A n c, .slice A' m c'] w fun e w' => e = .returned (.bool (sameB l l')) ∧ w = w' := by
  have h1 := conv_bytes A n c l B w hA
  have h2 := conv_bytes A' m c' l' B' w hA'
  rw [← strB_eq]
  generalize strB l = x at *
  generalize strB l' = y at *
  go_enter Tryd.func47, Tryd.ntmps47
  go_wp2
  go_ret
  exact ⟨rfl, rfl⟩
end Go.Proofs.YtjmkecaljkcoiaaDoor
