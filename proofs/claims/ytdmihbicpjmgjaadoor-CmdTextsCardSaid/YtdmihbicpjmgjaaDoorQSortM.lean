/-
  Processes sorted: plain lists.
-/
import Derived.Test.YtdmihbicpjmgjaaDoorQPr
namespace Go.Proofs.YtdmihbicpjmgjaaDoor
set_option linter.unusedVariables false

/-- Each once, in the order of their coming. -/
def dedS (acc : List Pr) (p : Pr) : List Pr := if p ∈ acc then acc else acc ++ [p]
def dedup (l : List Pr) : List Pr := l.foldl dedS []
/-- Laid in ahead of the first one that isn't ahead of it. -/
def insP (p : Pr) : List Pr → List Pr
  | [] => [p]
  | q :: r => if q.ahead p then q :: insP p r else p :: q :: r
/-- How many are ahead of it, from the front on. -/
def posF (p : Pr) : List Pr → Nat
  | [] => 0
  | q :: r => if q.ahead p then posF p r + 1 else 0
def insS (acc : List Pr) (p : Pr) : List Pr := if p ∈ acc then acc else insP p acc
/-- Processes, each once, those that are ahead first. -/
def sortP (l : List Pr) : List Pr := l.foldl insS []
theorem insP_pos (p : Pr) (l : List Pr) : l.take (posF p l) ++ p :: l.drop (posF p l) = insP p l := by
  induction l with
  | nil => rfl
  | cons q r ih =>
    unfold posF insP
    split
    · simp [ih]
    · simp
theorem posF_le (p : Pr) (l : List Pr) : posF p l ≤ l.length := by
  induction l with
  | nil => exact Nat.le_refl _
  | cons q r ih => unfold posF; split <;> simp; omega
/-- So far is the search. -/
def PosTo (p : Pr) (l : List Pr) (a : Nat) : Prop := posF p l = a + posF p (l.drop a)
theorem PosTo.start (p : Pr) (l : List Pr) : PosTo p l 0 := by simp [PosTo]
theorem PosTo.step {p : Pr} {l : List Pr} {a : Nat} (h : PosTo p l a) (ha : a < l.length) (hh : l[a].ahead p = true) : PosTo p l (a + 1) := by
  unfold PosTo at *
  rw [List.drop_eq_getElem_cons ha, posF, if_pos hh] at h
  omega
theorem PosTo.stop {p : Pr} {l : List Pr} {a : Nat} (h : PosTo p l a) (ha : a < l.length) (hh : l[a].ahead p = false) : posF p l = a := by
  unfold PosTo at *
  rw [List.drop_eq_getElem_cons ha, posF, if_neg (by simp [hh])] at h
  omega
theorem PosTo.end_ {p : Pr} {l : List Pr} {a : Nat} (h : PosTo p l a) (ha : l.length ≤ a) : posF p l = a := by
  unfold PosTo at *
  rw [List.drop_eq_nil_of_le ha, posF] at h
  omega

theorem or_three {A B C : Prop} : (A ∨ B ∨ C) ↔ ((B ∨ A) ∨ C) := ⟨fun h => h.elim (fun a => .inl (.inr a)) (fun h => h.elim (fun b => .inl (.inl b)) .inr), fun h => h.elim (fun h => h.elim (fun b => .inr (.inl b)) .inl) (fun c => .inr (.inr c))⟩
/-- Rising. -/
abbrev Rising (l : List Pr) : Prop := l.Pairwise fun p q => p.num < q.num
theorem mem_insP (p x : Pr) (l : List Pr) : x ∈ insP p l ↔ x = p ∨ x ∈ l := by
  induction l with
  | nil => simp [insP]
  | cons q r ih =>
    unfold insP
    split
    · rw [List.mem_cons, ih, List.mem_cons]; constructor <;> (intro h; rcases h with h | h | h <;> simp [h])
    · simp
theorem rising_insP (p : Pr) (l : List Pr) (h : Rising l) (hp : p ∉ l) : Rising (insP p l) := by
  induction l with
  | nil => simp [insP, Rising]
  | cons q r ih =>
    rw [Rising, List.pairwise_cons] at h
    unfold insP
    split
    · rename_i ha
      have ha' : q.num < p.num := of_decide_eq_true ha
      refine List.pairwise_cons.2 ⟨fun x hx => ?_, ih h.2 (fun e => hp (List.mem_cons_of_mem _ e))⟩
      rcases (mem_insP p x r).1 hx with rfl | hx
      · exact ha'
      · exact h.1 x hx
    · rename_i ha
      have ha' : ¬ q.num < p.num := fun e => ha (decide_eq_true e)
      have hne : p.num ≠ q.num := fun e => hp (by rw [Pr.num_inj e]; exact List.mem_cons_self ..)
      refine List.pairwise_cons.2 ⟨fun x hx => ?_, List.pairwise_cons.2 h⟩
      rcases List.mem_cons.1 hx with rfl | hx
      · omega
      · have := h.1 x hx; omega
theorem insS_spec (acc : List Pr) (p : Pr) (h : Rising acc) : Rising (insS acc p) ∧ ∀ x, x ∈ insS acc p ↔ x = p ∨ x ∈ acc := by
  unfold insS
  split
  · rename_i hp
    exact ⟨h, fun x => ⟨.inr, fun e => e.elim (fun e => e ▸ hp) id⟩⟩
  · rename_i hp
    exact ⟨rising_insP p acc h hp, fun x => mem_insP p x acc⟩
theorem sortP_fold (l acc : List Pr) (h : Rising acc) : Rising (l.foldl insS acc) ∧ ∀ x, x ∈ l.foldl insS acc ↔ x ∈ l ∨ x ∈ acc := by
  induction l generalizing acc with
  | nil => exact ⟨h, fun x => by simp⟩
  | cons p r ih =>
    obtain ⟨h1, h2⟩ := insS_spec acc p h
    obtain ⟨h3, h4⟩ := ih _ h1
    exact ⟨h3, fun x => by rw [List.foldl_cons, h4, h2, List.mem_cons]; exact or_three⟩
theorem sortP_rising (l : List Pr) : Rising (sortP l) := (sortP_fold l [] List.Pairwise.nil).1
theorem mem_sortP (l : List Pr) (x : Pr) : x ∈ sortP l ↔ x ∈ l := by
  have := (sortP_fold l [] List.Pairwise.nil).2 x
  simpa [sortP] using this
theorem rising_ext : ∀ (l m : List Pr), Rising l → Rising m → (∀ x, x ∈ l ↔ x ∈ m) → l = m
  | [], [], _, _, _ => rfl
  | [], q :: r, _, _, h => absurd ((h q).2 (List.mem_cons_self ..)) (by simp)
  | p :: r, [], _, _, h => absurd ((h p).1 (List.mem_cons_self ..)) (by simp)
  | p :: r, q :: s, h1, h2, h => by
    have h1' := List.pairwise_cons.1 h1
    have h2' := List.pairwise_cons.1 h2
    have e : p = q := by
      rcases List.mem_cons.1 ((h p).1 (List.mem_cons_self ..)) with e | e
      · exact e
      · rcases List.mem_cons.1 ((h q).2 (List.mem_cons_self ..)) with e' | e'
        · exact e'.symm
        · have a := h2'.1 p e
          have b := h1'.1 q e'
          omega
    subst e
    rw [rising_ext r s h1'.2 h2'.2 fun x => ?_]
    constructor
    · intro hx
      rcases List.mem_cons.1 ((h x).1 (List.mem_cons_of_mem _ hx)) with e | e
      · subst e; exact absurd (h1'.1 x hx) (by omega)
      · exact e
    · intro hx
      rcases List.mem_cons.1 ((h x).2 (List.mem_cons_of_mem _ hx)) with e | e
      · subst e; exact absurd (h2'.1 x hx) (by omega)
      · exact e
theorem sortP_len (l : List Pr) : (sortP l).length ≤ l.length := by
  have hg : ∀ (l acc : List Pr), (l.foldl insS acc).length ≤ acc.length + l.length := by
    intro l
    induction l with
    | nil => intro acc; simp
    | cons p r ih =>
      intro acc
      have h1 : (insS acc p).length ≤ acc.length + 1 := by
        unfold insS
        split
        · omega
        · rw [← insP_pos, List.length_append, List.length_cons, List.length_take, List.length_drop]; omega
      have := ih (insS acc p)
      rw [List.foldl_cons, List.length_cons]
      omega
  have := hg l []
  simpa [sortP] using this
theorem sortP_snoc (l : List Pr) (p : Pr) : sortP (l ++ [p]) = insS (sortP l) p := by simp [sortP]
theorem dedup_snoc (l : List Pr) (p : Pr) : dedup (l ++ [p]) = dedS (dedup l) p := by simp [dedup]
theorem dedup_fold (l acc : List Pr) (h : acc.Nodup) : (l.foldl dedS acc).Nodup ∧ ∀ x, x ∈ l.foldl dedS acc ↔ x ∈ l ∨ x ∈ acc := by
  induction l generalizing acc with
  | nil => exact ⟨h, fun x => by simp⟩
  | cons p r ih =>
    have h1 : (dedS acc p).Nodup ∧ ∀ x, x ∈ dedS acc p ↔ x = p ∨ x ∈ acc := by
      unfold dedS
      split
      · rename_i hp
        exact ⟨h, fun x => ⟨.inr, fun e => e.elim (fun e => e ▸ hp) id⟩⟩
      · rename_i hp
        refine ⟨List.nodup_append.2 ⟨h, by simp, fun a ha b hb => ?_⟩, fun x => by rw [List.mem_append, List.mem_singleton, or_comm]⟩
        rw [List.mem_singleton] at hb
        subst hb
        exact fun e => hp (e ▸ ha)
    obtain ⟨h3, h4⟩ := ih _ h1.1
    exact ⟨h3, fun x => by rw [List.foldl_cons, h4, h1.2, List.mem_cons]; exact or_three⟩
theorem dedup_nodup (l : List Pr) : (dedup l).Nodup := (dedup_fold l [] List.nodup_nil).1
theorem mem_dedup (l : List Pr) (x : Pr) : x ∈ dedup l ↔ x ∈ l := by
  have := (dedup_fold l [] List.nodup_nil).2 x
  simpa [dedup] using this
theorem dedup_len (l : List Pr) : (dedup l).length ≤ l.length := by
  have hg : ∀ (l acc : List Pr), (l.foldl dedS acc).length ≤ acc.length + l.length := by
    intro l
    induction l with
    | nil => intro acc; simp
    | cons p r ih =>
      intro acc
      have h1 : (dedS acc p).length ≤ acc.length + 1 := by unfold dedS; split <;> simp
      have := ih (dedS acc p)
      rw [List.foldl_cons, List.length_cons]
      omega
  have := hg l []
  simpa [dedup] using this
/-- Sorted by their numbers, whatever sorts them. -/
theorem sorted_is (l m : List Pr) (hp : m.Perm (dedup l)) (hs : m.Pairwise fun x y => (!decide (y.num < x.num)) = true) : m = sortP l := by
  refine rising_ext _ _ ?_ (sortP_rising l) fun x => by rw [hp.mem_iff, mem_dedup, mem_sortP]
  have hn : m.Nodup := (hp.nodup_iff).2 (dedup_nodup l)
  refine (hs.and hn).imp fun {x y} ⟨h1, h2⟩ => ?_
  have h3 : ¬ y.num < x.num := by simpa using h1
  have h4 : x.num ≠ y.num := fun e => h2 (Pr.num_inj e)
  omega
theorem merge_is (l : List Pr) : ((dedup l).mergeSort fun x y => !decide (y.num < x.num)) = sortP l :=
  sorted_is l _ (List.mergeSort_perm _ _) (List.pairwise_mergeSort (fun a b c h1 h2 => by simp at *; omega) (fun a b => by simp; omega) _)
open Go.RowKit
/-- New memory that holds m. -/
def MakesP (w : World) (m : List Pr) (e : Ending) (w' : World) : Prop :=
  ∃ A c, e = .returned (.slice A m.length c) ∧ OwnP w' w.heap.size (.slice A m.length c) m.length m ∧ Below w.heap.size w w'
theorem es_lit (w : World) (q : Pr) (T : TypeId) : Es prC (w.alloc (.cells #[.int .u16 (q.i : Int), .int .u32 (q.k : Int)] T)) (w.heap.size + 1) (some ⟨w.heap.size, 0, none⟩) 1 [q] := by
  refine ⟨rfl, fun _ => ⟨_, rfl, Nat.lt_succ_self _, fun j v hv => ?_⟩⟩
  rw [ec_one] at hv
  have hj : j < 2 := (List.getElem?_eq_some_iff.1 hv).1
  obtain rfl | rfl : j = 0 ∨ j = 1 := by omega
  · simp [prC] at hv
    subst hv
    exact cell_of_row _ _ 0 _ T (0, 0) (heap_alloc_new w _)
  · simp [prC] at hv
    subst hv
    exact cell_of_row _ _ 1 _ T (0, 0) (heap_alloc_new w _)
end Go.Proofs.YtdmihbicpjmgjaaDoor
