/-
  Masks as elements, shares: plain lists.
-/
import Derived.Test.YtnaegaeicdknbaaMaskE
namespace Go.Proofs.Ytnaegaeicdknbaa
open Go.RowKit Go.Maps
set_option linter.unusedVariables false
set_option linter.unusedSimpArgs false

/-- A mask. -/
structure Mk where
  a : Nat
  b : Nat
  ha : a < 18446744073709551616
  hb : b < 18446744073709551616
theorem Mk.ext' {p q : Mk} (h : p.a = q.a) (h' : p.b = q.b) : p = q := by
  cases p; cases q; simp only at h h'; subst h; subst h'; rfl
instance : DecidableEq Mk := fun p q => if h : p.a = q.a ∧ p.b = q.b then isTrue (Mk.ext' h.1 h.2) else isFalse (fun e => h (by rw [e]; exact ⟨rfl, rfl⟩))
def mkC (m : Mk) : List Value := [.int .u64 (m.a : Int), .int .u64 (m.b : Int)]
theorem mkOk : EncOk mkC 2 := ⟨fun _ => rfl, fun p v hv => by simp [mkC] at hv; rcases hv with rfl | rfl <;> rfl, by decide⟩
/-- A mask and how often it was there. -/
def shC (s : Mk × Nat) : List Value := [.int .u64 (s.1.a : Int), .int .u64 (s.1.b : Int), .int .i64 (s.2 : Int)]
theorem shOk : EncOk shC 3 := ⟨fun _ => rfl, fun p v hv => by simp [shC] at hv; rcases hv with rfl | rfl | rfl <;> rfl, by decide⟩
def Mk.key (m : Mk) : Lit := .string (keyBytes [.int .u64 (m.a : Int), .int .u64 (m.b : Int)])
theorem key_mk (m : Mk) : keyOf Try.prog 24 (.agg #[.int .u64 (m.a : Int), .int .u64 (m.b : Int)]) = some m.key := by
  obtain ⟨k, hk⟩ := typesPosM
  have h1 := wf_mask m.ha
  have h2 := wf_mask m.hb
  unfold keyOf
  simp only [Try.underlying24]
  rw [if_pos (by simp [keyTypeMask, Value.formed, Try.underlying24, cellsMask]), hk]
  unfold Program.keyLits
  simp [Try.underlying24, Value.cells, cellsMask, cellsU64, List.range, List.range.loop, Program.keyLits, Try.underlying22, h1, h2, Mk.key]
theorem Mk.key_inj {p q : Mk} (h : p.key = q.key) : p = q := by
  have e := lawMask.inj (key_mk p) (by rw [h]; exact key_mk q)
  simp only [Value.agg.injEq, Array.mk.injEq, List.cons.injEq, Value.int.injEq, true_and, and_true] at e
  exact Mk.ext' (by omega) (by omega)

/-- Each once, in the order of their coming. -/
def dedK (acc : List Mk) (p : Mk) : List Mk := if p ∈ acc then acc else acc ++ [p]
def dedM (l : List Mk) : List Mk := l.foldl dedK []
theorem dedM_snoc (l : List Mk) (x : Mk) : dedM (l ++ [x]) = dedK (dedM l) x := by simp [dedM]
theorem snoc_ind {α : Type} {P : List α → Prop} (h0 : P []) (hs : ∀ l x, P l → P (l ++ [x])) (l : List α) : P l := by
  have : ∀ n (l : List α), l.length = n → P l := by
    intro n
    induction n with
    | zero => intro l hl; rw [List.length_eq_zero_iff.1 hl]; exact h0
    | succ n ih =>
      intro l hl
      have hne : l ≠ [] := by intro e; rw [e] at hl; simp at hl
      rw [← List.dropLast_concat_getLast hne]
      exact hs _ _ (ih _ (by rw [List.length_dropLast, hl]; rfl))
  exact this l.length l rfl
theorem mem_dedM (l : List Mk) (p : Mk) : p ∈ dedM l ↔ p ∈ l := by
  induction l using snoc_ind with
  | h0 => simp [dedM]
  | hs l x ih =>
    rw [dedM_snoc, dedK]
    by_cases h : x ∈ dedM l
    · rw [if_pos h, ih, List.mem_append, List.mem_singleton]
      constructor
      · exact Or.inl
      · rintro (h' | rfl)
        · exact h'
        · exact ih.1 h
    · rw [if_neg h, List.mem_append, List.mem_append, ih]
theorem dedM_nodup (l : List Mk) : (dedM l).Nodup := by
  induction l using snoc_ind with
  | h0 => simp [dedM]
  | hs l x ih =>
    rw [dedM_snoc, dedK]
    by_cases h : x ∈ dedM l
    · rw [if_pos h]; exact ih
    · rw [if_neg h, List.nodup_append]
      exact ⟨ih, by simp, fun a ha b hb => by rw [List.mem_singleton] at hb; subst hb; intro e; subst e; exact h ha⟩
theorem nodup_at {l : List Mk} (h : l.Nodup) {i j : Nat} (hi : i < l.length) (hj : j < l.length) (e : l[i] = l[j]) : i = j := by
  have hp := List.pairwise_iff_getElem.1 h
  rcases Nat.lt_trichotomy i j with h1 | h1 | h1
  · exact absurd e (hp i j hi hj h1)
  · exact h1
  · exact absurd e.symm (hp j i hj hi h1)
def shL (l : List Mk) : List (Mk × Nat) := (dedM l).map fun m => (m, l.count m)
theorem shL_len (l : List Mk) : (shL l).length = (dedM l).length := by simp [shL]
theorem shL_at {l : List Mk} {j : Nat} {x : Mk} (h : (dedM l)[j]? = some x) : (shL l)[j]? = some (x, l.count x) := by
  simp [shL, h]
theorem shL_old {l : List Mk} {x : Mk} {j : Nat} (h : (dedM l)[j]? = some x) : shL (l ++ [x]) = (shL l).set j (x, l.count x + 1) ∧ dedM (l ++ [x]) = dedM l := by
  have hm : x ∈ dedM l := List.mem_of_getElem? h
  have hd : dedM (l ++ [x]) = dedM l := by rw [dedM_snoc, dedK, if_pos hm]
  refine ⟨?_, hd⟩
  apply List.ext_getElem?
  intro i
  unfold shL
  rw [hd, List.getElem?_set]
  by_cases hij : j = i
  · subst hij
    have hj : j < (dedM l).length := (List.getElem?_eq_some_iff.1 h).1
    rw [if_pos rfl, if_pos (by simpa using hj), List.getElem?_map, h]
    simp [List.count_append]
  · rw [if_neg hij, List.getElem?_map, List.getElem?_map]
    cases hi : (dedM l)[i]? with
    | none => rfl
    | some y =>
      have hne : y ≠ x := by
        intro e
        subst e
        have h1 := (List.getElem?_eq_some_iff.1 h)
        have h2 := (List.getElem?_eq_some_iff.1 hi)
        obtain ⟨a1, a2⟩ := h1
        obtain ⟨b1, b2⟩ := h2
        exact hij (nodup_at (dedM_nodup l) a1 b1 (a2.trans b2.symm))
      simp [List.count_append, List.count_singleton, hne, Ne.symm hne]
theorem shL_new {l : List Mk} {x : Mk} (h : x ∉ dedM l) : shL (l ++ [x]) = shL l ++ [(x, 1)] ∧ dedM (l ++ [x]) = dedM l ++ [x] := by
  have hd : dedM (l ++ [x]) = dedM l ++ [x] := by rw [dedM_snoc, dedK, if_neg h]
  refine ⟨?_, hd⟩
  unfold shL
  rw [hd, List.map_append]
  congr 1
  · apply List.map_congr_left
    intro y hy
    have hne : y ≠ x := by intro e; subst e; exact h hy
    simp [List.count_append, List.count_singleton, hne, Ne.symm hne]
  · have h0 : l.count x = 0 := List.count_eq_zero.2 (fun hm => h ((mem_dedM l x).2 hm))
    simp [List.count_append, h0]
end Go.Proofs.Ytnaegaeicdknbaa
