/-
  Layer 8: texts of views: plain lists. No program in sight.
-/
import Derived.Test.YtdmihbicpjmgjaaDoorQViewM
import Derived.Test.YtdmihbicpjmgjaaDoorQView6
import Derived.Test.YtdmihbicpjmgjaaDoorQTextM
namespace Go.Proofs.YtdmihbicpjmgjaaDoor
open Go.RowKit Go.Lib
set_option linter.unusedVariables false

/-- A member's part of a text, behind the blank. -/
def partL (v : Vi) (p : Pr) : List UInt8 := pidT p.i p.k ++ (47 :: (decDigits (lfX v.lvs p) ++ (if p ∈ v.ldr then [42] else [])))
def partsL (v : Vi) : List Pr → List UInt8
  | [] => []
  | p :: r => 32 :: (partL v p ++ partsL v r)
theorem partsL_append (v : Vi) : ∀ l m : List Pr, partsL v (l ++ m) = partsL v l ++ partsL v m
  | [], m => rfl
  | p :: l, m => by rw [List.cons_append, partsL, partsL, partsL_append v l m, List.cons_append, List.append_assoc]
theorem partsL_take (v : Vi) {l : List Pr} {j : Nat} (h : j < l.length) : partsL v (l.take (j + 1)) = partsL v (l.take j) ++ (32 :: partL v l[j]) := by
  rw [List.take_succ_eq_append_getElem h, partsL_append]
  simp [partsL]
/-- The text of a view. -/
def printL (v : Vi) : List UInt8 := decDigits v.id ++ partsL v v.mem
theorem dec_le {n k : Nat} (h : n < 10 ^ (k + 1)) : (decDigits n).length ≤ k + 1 := dec_len n k h
theorem partL_len (v : Vi) (p : Pr) (h : lfX v.lvs p < 100) : (partL v p).length ≤ 20 := by
  have h1 := pidT_len p.i p.k p.hi p.hk
  have h2 := dec_len (lfX v.lvs p) 1 (by omega)
  unfold partL
  rw [List.length_append, List.length_cons, List.length_append]
  split <;> simp <;> omega
/-- A leaf's member has its place. -/
theorem LeavesP.has {mem : List Pr} {lvs : List (List Pr)} (h : LeavesP mem lvs) {p : Pr} (hp : p ∈ mem) : p ∈ lvs.flatten := by
  have := h.once p hp
  exact List.count_pos_iff.1 (by omega)
end Go.Proofs.YtdmihbicpjmgjaaDoor
namespace Go.Proofs.YtdmihbicpjmgjaaDoor
open Go.RowKit Go.Lib
set_option linter.unusedVariables false

/-- No digit stands at the beginning. -/
def NoDig (l : List UInt8) : Prop := ∀ c t, l = c :: t → ¬ isDig c
theorem NoDig.nil : NoDig [] := fun c t h => by cases h
theorem NoDig.cons {c : UInt8} (h : ¬ isDig c) (t : List UInt8) : NoDig (c :: t) := fun d s e => by cases e; exact h
theorem dig_cancel : ∀ (a b x y : List UInt8), allDig a → allDig b → NoDig x → NoDig y → a ++ x = b ++ y → a = b ∧ x = y
  | [], [], x, y, _, _, _, _, h => ⟨rfl, h⟩
  | [], c :: b, x, y, _, hb, hx, _, h => absurd (hb c (by simp)) (hx c (b ++ y) h)
  | c :: a, [], x, y, ha, _, _, hy, h => absurd (ha c (by simp)) (hy c (a ++ x) h.symm)
  | c :: a, d :: b, x, y, ha, hb, hx, hy, h => by
    rw [List.cons_append, List.cons_append, List.cons.injEq] at h
    obtain ⟨h1, h2⟩ := dig_cancel a b x y (fun z hz => ha z (by simp [hz])) (fun z hz => hb z (by simp [hz])) hx hy h.2
    exact ⟨by rw [h.1, h1], h2⟩
theorem dec_cancel {m n : Nat} {x y : List UInt8} (hx : NoDig x) (hy : NoDig y) (h : decDigits m ++ x = decDigits n ++ y) : m = n ∧ x = y := by
  obtain ⟨h1, h2⟩ := dig_cancel _ _ _ _ (dec_all m).1 (dec_all n).1 hx hy h
  exact ⟨dec_inj h1, h2⟩
theorem noDig_32 (t : List UInt8) : NoDig (32 :: t) := NoDig.cons (by unfold isDig; decide) t
theorem noDig_42 (t : List UInt8) : NoDig (42 :: t) := NoDig.cons (by unfold isDig; decide) t
theorem noDig_46 (t : List UInt8) : NoDig (46 :: t) := NoDig.cons (by unfold isDig; decide) t
theorem noDig_47 (t : List UInt8) : NoDig (47 :: t) := NoDig.cons (by unfold isDig; decide) t
theorem pidT_cancel {i k j m : Nat} {x y : List UInt8} (hx : NoDig x) (hy : NoDig y) (h : pidT i k ++ x = pidT j m ++ y) : i = j ∧ k = m ∧ x = y := by
  unfold pidT at h
  simp only [List.append_assoc, List.cons_append, List.nil_append] at h
  obtain ⟨h1, h2⟩ := dec_cancel (noDig_46 _) (noDig_46 _) h
  rw [List.cons.injEq] at h2
  obtain ⟨h3, h4⟩ := dec_cancel hx hy h2.2
  exact ⟨h1, h3, h4⟩
theorem partsL_noDig (v : Vi) (l : List Pr) : NoDig (partsL v l) := by
  cases l
  · exact NoDig.nil
  · exact noDig_32 _
theorem parts_inj (u v : Vi) : ∀ (l m : List Pr), partsL u l = partsL v m → l = m ∧ ∀ p ∈ l, lfX u.lvs p = lfX v.lvs p ∧ (p ∈ u.ldr ↔ p ∈ v.ldr)
  | [], [], _ => ⟨rfl, fun p hp => by simp at hp⟩
  | [], q :: m, h => by simp [partsL] at h
  | p :: l, [], h => by simp [partsL] at h
  | p :: l, q :: m, h => by
    rw [partsL, partsL, List.cons.injEq] at h
    have h := h.2
    unfold partL at h
    simp only [List.append_assoc, List.cons_append] at h
    obtain ⟨h1, h2, h3⟩ := pidT_cancel (noDig_47 _) (noDig_47 _) h
    have hpq : p = q := Pr.ext h1 h2
    subst hpq
    rw [List.cons.injEq] at h3
    have h3 := h3.2
    have n1 : NoDig ((if p ∈ u.ldr then [42] else []) ++ partsL u l) := by
      split
      · exact noDig_42 _
      · exact partsL_noDig u l
    have n2 : NoDig ((if p ∈ v.ldr then [42] else []) ++ partsL v m) := by
      split
      · exact noDig_42 _
      · exact partsL_noDig v m
    obtain ⟨h4, h5⟩ := dec_cancel n1 n2 h3
    have h6 : (p ∈ u.ldr ↔ p ∈ v.ldr) ∧ partsL u l = partsL v m := by
      by_cases a : p ∈ u.ldr <;> by_cases b : p ∈ v.ldr
      · rw [if_pos a, if_pos b] at h5; exact ⟨⟨fun _ => b, fun _ => a⟩, by simpa using h5⟩
      · rw [if_pos a, if_neg b] at h5
        cases m
        · simp [partsL] at h5
        · simp [partsL] at h5
      · rw [if_neg a, if_pos b] at h5
        cases l
        · simp [partsL] at h5
        · simp [partsL] at h5
      · rw [if_neg a, if_neg b] at h5; exact ⟨⟨fun e => absurd e a, fun e => absurd e b⟩, by simpa using h5⟩
    obtain ⟨h7, h8⟩ := parts_inj u v l m h6.2
    refine ⟨by rw [h7], fun x hx => ?_⟩
    rcases List.mem_cons.1 hx with rfl | hx
    · exact ⟨h4, h6.1⟩
    · exact h8 x hx
/-- Two rising rows of the same ones are one. -/
theorem rise_ext {mem : List Pr} : ∀ (l m : List Pr), RiseP mem l → RiseP mem m → (∀ p, p ∈ l ↔ p ∈ m) → l = m
  | [], [], _, _, _ => rfl
  | [], q :: m, _, _, h => by have := (h q).2 (by simp); simp at this
  | p :: l, [], _, _, h => by have := (h p).1 (by simp); simp at this
  | p :: l, q :: m, hl, hm, h => by
    have c1 := List.pairwise_cons.1 hl.2
    have c2 := List.pairwise_cons.1 hm.2
    have e : p = q := by
      rcases List.mem_cons.1 ((h p).1 (by simp)) with e | h1
      · exact e
      · rcases List.mem_cons.1 ((h q).2 (by simp)) with e | h2
        · exact e.symm
        · have a := c1.1 q h2
          have b := c2.1 p h1
          omega
    subst e
    have n1 : p ∉ l := fun hp => by have := c1.1 p hp; omega
    have n2 : p ∉ m := fun hp => by have := c2.1 p hp; omega
    rw [rise_ext l m ⟨fun x hx => hl.1 x (by simp [hx]), c1.2⟩ ⟨fun x hx => hm.1 x (by simp [hx]), c2.2⟩ fun x => ⟨fun hx => ?_, fun hx => ?_⟩]
    · rcases List.mem_cons.1 ((h x).1 (by simp [hx])) with e | e
      · subst e; exact absurd hx n1
      · exact e
    · rcases List.mem_cons.1 ((h x).2 (by simp [hx])) with e | e
      · subst e; exact absurd hx n2
      · exact e
/-- The leaf in which a member stands. -/
theorem lfX_iff {mem : List Pr} {lvs : List (List Pr)} (h : LeavesP mem lvs) {p : Pr} (hp : p ∈ mem) {j : Nat} (hj : j < lvs.length) : lfX lvs p = j ↔ p ∈ lvs[j] := by
  constructor
  · intro e
    obtain ⟨h1, h2⟩ := lfX_lt lvs p (h.has hp)
    subst e
    exact h2
  · intro e
    have h1 := lfX_new (lvs.take j) lvs[j] (lvs.drop (j + 1)) p (fun x hx hpx => ?_) e
    · rw [← List.drop_eq_getElem_cons hj, List.take_append_drop] at h1
      rw [h1, List.length_take]
      omega
    · have h2 := h.once p hp
      have h3 : lvs.flatten = (lvs.take j).flatten ++ (lvs[j] ++ (lvs.drop (j + 1)).flatten) := by
        conv => lhs; rw [← List.take_append_drop j lvs, List.flatten_append, List.drop_eq_getElem_cons hj, List.flatten_cons]
      rw [h3, List.count_append, List.count_append] at h2
      have h4 : 0 < (lvs.take j).flatten.count p := List.count_pos_iff.2 (List.mem_flatten.2 ⟨x, hx, hpx⟩)
      have h5 : 0 < lvs[j].count p := List.count_pos_iff.2 e
      omega
theorem leaves_le {mem : List Pr} {a b : List (List Pr)} (ha : LeavesP mem a) (hb : LeavesP mem b) (h : ∀ p ∈ mem, lfX a p = lfX b p) : a.length ≤ b.length := by
  rcases Nat.lt_or_ge b.length a.length with hlt | hge
  · have hne := (ha.each _ (List.getElem_mem hlt)).1
    obtain ⟨p, hp⟩ := List.exists_mem_of_ne_nil _ hne
    have hm := (ha.each _ (List.getElem_mem hlt)).2.1 p hp
    have e1 := (lfX_iff ha hm hlt).2 hp
    obtain ⟨h1, _⟩ := lfX_lt b p (hb.has hm)
    rw [← h p hm, e1] at h1
    omega
  · exact hge
theorem leaves_ext {mem : List Pr} {a b : List (List Pr)} (ha : LeavesP mem a) (hb : LeavesP mem b) (h : ∀ p ∈ mem, lfX a p = lfX b p) : a = b := by
  have hl : a.length = b.length := Nat.le_antisymm (leaves_le ha hb h) (leaves_le hb ha fun p hp => (h p hp).symm)
  refine List.ext_getElem hl fun j h1 h2 => rise_ext _ _ (ha.each _ (List.getElem_mem h1)).2 (hb.each _ (List.getElem_mem h2)).2 fun p => ⟨fun hp => ?_, fun hp => ?_⟩
  · have hm := (ha.each _ (List.getElem_mem h1)).2.1 p hp
    exact (lfX_iff hb hm h2).1 (by rw [← h p hm]; exact (lfX_iff ha hm h1).2 hp)
  · have hm := (hb.each _ (List.getElem_mem h2)).2.1 p hp
    exact (lfX_iff ha hm h1).1 (by rw [h p hm]; exact (lfX_iff hb hm h2).2 hp)
/-- Unlike views that may be have unlike texts. -/
theorem printL_inj {u v : Vi} (hu : MayV u) (hv : MayV v) (h : printL u = printL v) : u = v := by
  unfold printL at h
  obtain ⟨h1, h2⟩ := dec_cancel (partsL_noDig u _) (partsL_noDig v _) h
  obtain ⟨h3, h4⟩ := parts_inj u v _ _ h2
  have hL := hu.lvs
  rw [h3] at hL h4
  have h5 := leaves_ext hL hv.lvs fun p hp => (h4 p hp).1
  have hR := hu.ldr
  rw [h3] at hR
  have h6 := rise_ext u.ldr v.ldr hR hv.ldr fun p => ⟨fun hp => (h4 p (hR.1 p hp)).2.1 hp, fun hp => (h4 p (hv.ldr.1 p hp)).2.2 hp⟩
  cases u
  cases v
  simp only at h1 h3 h5 h6
  subst h1 h3 h5 h6
  rfl
end Go.Proofs.YtdmihbicpjmgjaaDoor
