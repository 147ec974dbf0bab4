/-
  Contracts of layer 5: a mask in memory; rows of ints; Of.
-/
import Derived.Test.YthloamhodapmpaaMask3
namespace Go.Proofs.Ythloamhodapmpaa
open Go.RowKit
set_option linter.unusedVariables false
set_option linter.unusedSimpArgs false

/-- A mask in block b. -/
def MAt (w : World) (b x y : Nat) : Prop := w.heap[b]? = some (.cells #[.int .u64 (x : Int), .int .u64 (y : Int)] 39 (0, 0))
section
variable {w w' : World} {b x y : Nat}
theorem MAt.c0 (h : MAt w b x y) : w.cell? ⟨b, 0, none⟩ = some (.int .u64 (x : Int)) := cell_of_row w b 0 _ _ _ h
theorem MAt.c1 (h : MAt w b x y) : w.cell? ⟨b, 1, none⟩ = some (.int .u64 (y : Int)) := cell_of_row w b 1 _ _ _ h
theorem MAt.fz (h : MAt w b x y) (j : Nat) : w.frozen? ⟨b, j, none⟩ = false := frozen_of_row w b j _ _ h
theorem MAt.lt (h : MAt w b x y) : b < w.heap.size := (Array.getElem?_eq_some_iff.1 h).1
theorem MAt.below {B : Nat} (h : MAt w b x y) (hb : Below B w w') (hB : b < B) : MAt w' b x y := (hb.block b hB).trans h
theorem MAt.later (h : MAt w b x y) (hb : Below w.heap.size w w') : MAt w' b x y := h.below hb h.lt
theorem MAt.alloc (h : MAt w b x y) (o : Obj) : MAt (w.alloc o) b x y := (Below.heap_alloc w o b h.lt).trans h
theorem MAt.mk_ (w : World) (x y : Nat) : MAt (w.alloc (.cells #[.int .u64 (x : Int), .int .u64 (y : Int)] 39)) w.heap.size x y := heap_alloc_new w _
theorem MAt.other (h : MAt w b x y) {a : Addr} (v : Value) (hb : b ≠ a.block) : MAt (w.setCell a v) b x y := (heap_setCell_other w a b v hb).trans h
theorem MAt.set_ (h : MAt w b x y) (p q : Nat) : MAt ((w.setCell ⟨b, 0, none⟩ (.int .u64 (p : Int))).setCell ⟨b, 1, none⟩ (.int .u64 (q : Int))) b p q := by
  have h1 := heap_setCell_same w b 0 _ _ (.int .u64 (p : Int)) h
  have h2 := heap_setCell_same _ b 1 _ _ (.int .u64 (q : Int)) h1
  exact h2
end

/-- Ints as elements. -/
def inC (x : Int) : List Value := [.int .i64 x]
theorem inOk : EncOk inC 1 := ⟨fun _ => rfl, fun p v hv => by simp [inC] at hv; subst hv; rfl, by decide⟩
theorem in_at {w : World} {ad : Addr} {k : Nat} {x : Int} (hc : ∀ i v, (inC x)[i]? = some v → w.cell? (ad.add (k * 1 + i)) = some v) : w.cell? (ad.add k) = some (.int .i64 x) := by
  have := hc 0 _ rfl
  simpa using this
/-- A row of ints that came in reads as a list. -/
theorem isRow_ints {w : World} {a : Option Addr} {len cap : Nat} {zs : List Int} (h : IsRow .i64 w a len cap zs) : ∃ l : List Int, Es inC w w.heap.size a len l ∧ len ≤ cap ∧ cap ≤ maxLen := by
  have hb := isRow_block h
  rcases h with ⟨rfl, rfl, rfl, rfl⟩ | ⟨x, rfl, hlc, hm, hz, hc, hw⟩
  · exact ⟨[], Es.none_, Nat.le_refl _, by decide⟩
  · refine ⟨zs.take len, ⟨by simp; omega, fun hl => ⟨x, rfl, hb x rfl hl, fun j y hj => ?_⟩⟩, hlc, hm⟩
    have e : ∀ l : List Int, ec inC l = l.map (fun x => Value.int .i64 x) := by
      intro l
      induction l with
      | nil => rfl
      | cons x l ih => rw [ec_cons, ih]; rfl
    rw [e, List.getElem?_map, Option.map_eq_some_iff] at hj
    obtain ⟨n, hn, rfl⟩ := hj
    rw [List.getElem?_take] at hn
    split at hn
    · obtain ⟨hj, rfl⟩ := List.getElem?_eq_some_iff.1 hn
      rw [hc j hj]
      have e : zs.getD j 0 = zs[j] := by simp [List.getD, hj]
      rw [e]
    · cases hn

/-- Is a rank among some? -/
def ofP (l : List Int) (i : Nat) : Bool := decide ((i : Int) ∈ l)
/-- The mask of the first k. -/
structure OfInv (l : List Int) (k a b : Nat) : Prop where
  lo : a = loM (ofP (l.take k))
  hi : b = hiM (ofP (l.take k))
theorem ofP_nil (i : Nat) : ofP [] i = false := by simp [ofP]
theorem OfInv.start (l : List Int) : OfInv l 0 0 0 := by
  have h := mask_of (a := 0) (b := 0) (p := ofP []) (by decide) (by decide) (fun i _ => by rw [zero_bit, ofP_nil])
  exact ⟨by rw [List.take_zero, h.1], by rw [List.take_zero, h.2]⟩
theorem OfInv.la {l : List Int} {k a b : Nat} (h : OfInv l k a b) : a < 18446744073709551616 := by rw [h.lo]; exact loM_lt _
theorem OfInv.lb {l : List Int} {k a b : Nat} (h : OfInv l k a b) : b < 18446744073709551616 := by rw [h.hi]; exact hiM_lt _
theorem OfInv.yes {l : List Int} {k a b r : Nat} (h : OfInv l k a b) (hk : k < l.length) (hr : r < 128) (he : l[k] = (r : Int)) : OfInv l (k + 1) (putA a r) (putB b r) := by
  have hm := mask_of (p := ofP (l.take (k + 1))) (putA_lt (r := r) h.la) (putB_lt h.lb hr) (fun i hi => by
    rw [put_bit a b r i hr hi, h.lo, h.hi, bit_of _ i hi, List.take_succ_eq_append_getElem hk, he]
    unfold ofP
    rw [Bool.eq_iff_iff]
    have e : ((i : Int) = (r : Int)) ↔ i = r := by omega
    simp only [Bool.or_eq_true, decide_eq_true_eq, List.mem_append, List.mem_singleton, e])
  exact ⟨hm.1.symm, hm.2.symm⟩
theorem OfInv.no {l : List Int} {k a b : Nat} (h : OfInv l k a b) (hk : k < l.length) (hr : ¬ (0 ≤ l[k] ∧ l[k] < 128)) : OfInv l (k + 1) a b := by
  have hm := of_congr (p := ofP (l.take (k + 1))) (q := ofP (l.take k)) (fun i hi => by
    rw [List.take_succ_eq_append_getElem hk]
    unfold ofP
    rw [Bool.eq_iff_iff]
    simp only [decide_eq_true_eq, List.mem_append, List.mem_singleton]
    constructor
    · rintro (h | e)
      · exact h
      · exfalso
        rw [← e] at hr
        omega
    · exact Or.inl)
  exact ⟨by rw [hm.1]; exact h.lo, by rw [hm.2]; exact h.hi⟩
theorem OfInv.done {l : List Int} {k a b : Nat} (h : OfInv l k a b) (hk : l.length ≤ k) : a = loM (ofP l) ∧ b = hiM (ofP l) := by
  obtain ⟨h1, h2⟩ := h
  rw [List.take_of_length_le hk] at h1 h2
  exact ⟨h1, h2⟩
end Go.Proofs.Ythloamhodapmpaa
