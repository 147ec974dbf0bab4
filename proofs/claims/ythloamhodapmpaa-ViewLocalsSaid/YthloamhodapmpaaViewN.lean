/-
  What somebody's local view is, and the row of them. Plain lemmas, no program in sight.
-/
import Derived.Test.YthloamhodapmpaaViewG
namespace Go.Proofs.Ythloamhodapmpaa
set_option linter.unusedVariables false

/-- The view of nobody. -/
def zeroVi : Vi := ⟨0, [], [], []⟩
/-- z is p's local view of v. -/
def LocP (v : Vi) (p : Pr) (z : Vi) : Prop := (MayV v ∧ ∃ h : lfX v.lvs p < v.lvs.length, p ∈ v.lvs[lfX v.lvs p] ∧ z = ⟨v.id, v.lvs[lfX v.lvs p], [v.lvs[lfX v.lvs p]], v.lvs[lfX v.lvs p]⟩) ∨ (¬ (MayV v ∧ p ∈ v.lvs.flatten) ∧ z = zeroVi)
theorem locP_ex (v : Vi) (p : Pr) : ∃ z, LocP v p z := by
  by_cases h : MayV v ∧ p ∈ v.lvs.flatten
  · obtain ⟨h1, h2⟩ := lfX_lt v.lvs p h.2
    exact ⟨_, .inl ⟨h.1, h1, h2, rfl⟩⟩
  · exact ⟨_, .inr ⟨h, rfl⟩⟩
theorem locP_no {v : Vi} {p : Pr} {z : Vi} (h : LocP v p z) (hn : ¬ (MayV v ∧ p ∈ v.lvs.flatten)) : z = zeroVi := by
  rcases h with ⟨h1, h2, h3, _⟩ | ⟨_, h⟩
  · exact absurd ⟨h1, List.mem_flatten.2 ⟨_, List.getElem_mem h2, h3⟩⟩ hn
  · exact h
theorem locP_yes {v : Vi} {p : Pr} {z : Vi} (h : LocP v p z) (hm : MayV v) (hp : p ∈ v.lvs.flatten) : ∃ h : lfX v.lvs p < v.lvs.length, p ∈ v.lvs[lfX v.lvs p] ∧ z = ⟨v.id, v.lvs[lfX v.lvs p], [v.lvs[lfX v.lvs p]], v.lvs[lfX v.lvs p]⟩ := by
  rcases h with ⟨_, h⟩ | ⟨h, _⟩
  · exact h
  · exact absurd ⟨hm, hp⟩ h
theorem rise_self {l : List Pr} (h : l.Nodup) : RiseP l l := by
  refine ⟨fun p hp => hp, List.pairwise_iff_getElem.2 fun i j hi hj hij => ?_⟩
  rw [plc_nodup h hi, plc_nodup h hj]
  exact hij
theorem nodup_sub {mem l : List Pr} (hm : (mem.map Pr.i).Nodup) (hl : l.Nodup) (hs : ∀ p ∈ l, p ∈ mem) : (l.map Pr.i).Nodup := by
  refine List.pairwise_map.2 (hl.imp_of_mem fun {a b} ha hb hab e => hab ?_)
  obtain ⟨i, hi, rfl⟩ := List.mem_iff_getElem.1 (hs a ha)
  obtain ⟨j, hj, rfl⟩ := List.mem_iff_getElem.1 (hs b hb)
  have h1 : (mem.map Pr.i)[i]'(by simpa using hi) = (mem.map Pr.i)[j]'(by simpa using hj) := by simpa using e
  have := (List.getElem_inj hm).1 h1
  subst this
  rfl
/-- A view of one leaf may be. -/
theorem may_leaf {v : Vi} (h : MayV v) {l : List Pr} (hl : l ∈ v.lvs) : MayV ⟨v.id, l, [l], l⟩ := by
  obtain ⟨h1, h2⟩ := h.lvs.each l hl
  have hn := h2.nodup
  have hr := rise_self hn
  have hpos : 1 ≤ l.length := by cases l with
    | nil => exact absurd rfl h1
    | cons x l => simp
  refine ⟨h.lo, h.hi, ⟨hpos, Nat.le_trans h2.len h.mem.most, fun p hp => h.mem.each p (h2.1 p hp), nodup_sub h.mem.ids hn h2.1⟩, ⟨fun x hx => ?_, fun p hp => ?_, ?_⟩, h1, hr⟩
  · rw [List.mem_singleton] at hx
    rw [hx]
    exact ⟨h1, hr⟩
  · have := List.nodup_iff_count.1 hn p
    have h3 : 0 < l.count p := List.count_pos_iff.2 hp
    simp only [List.flatten_cons, List.flatten_nil, List.append_nil]
    omega
  · have e : firstsP [l] = l.take 1 := by
      cases l with
      | nil => exact absurd rfl h1
      | cons x l => simp [firstsP]
    rw [e]
    exact hr.take 1
theorem locP_may {v : Vi} {p : Pr} {z : Vi} (h : LocP v p z) (hz : 0 < z.id) : MayV z ∧ LocP z p z := by
  rcases h with ⟨h1, h2, h3, rfl⟩ | ⟨_, rfl⟩
  · have hm := may_leaf h1 (List.getElem_mem h2)
    generalize v.lvs[lfX v.lvs p] = l at *
    have e : lfX [l] p = 0 := by simp [lfX, h3]
    refine ⟨hm, .inl ⟨hm, ?_⟩⟩
    have h0 : lfX [l] p < [l].length := by rw [e]; simp
    refine ⟨h0, ?_⟩
    have e2 : [l][lfX [l] p]'h0 = l := by
      have : [l][lfX [l] p]? = some l := by rw [e]; rfl
      exact (List.getElem?_eq_some_iff.1 this).2
    show p ∈ [l][lfX [l] p]'h0 ∧ (⟨v.id, l, [l], l⟩ : Vi) = ⟨v.id, [l][lfX [l] p]'h0, [[l][lfX [l] p]'h0], [l][lfX [l] p]'h0⟩
    rw [e2]
    exact ⟨h3, rfl⟩
  · exact absurd hz (by decide)
theorem locP_hi {v : Vi} {p : Pr} {z : Vi} (h : LocP v p z) : z.id < 18446744073709551616 := by
  rcases h with ⟨h1, h2, h3, rfl⟩ | ⟨_, rfl⟩
  · have := h1.hi
    show v.id < _
    omega
  · decide
/-- One local view more. -/
def rowS (acc : List Vi) (z : Vi) : List Vi := if z.id = 0 then acc else if acc.getLast?.map Vi.mem = some z.mem then acc else acc ++ [z]
def rowF (zs : List Vi) : List Vi := zs.foldl rowS []
theorem rowS_zero {acc : List Vi} {z : Vi} (h : z.id = 0) : rowS acc z = acc := if_pos h
theorem rowS_same {acc : List Vi} {z : Vi} (h : z.id ≠ 0) (h' : acc.getLast?.map Vi.mem = some z.mem) : rowS acc z = acc := by unfold rowS; rw [if_neg h, if_pos h']
theorem rowS_new {acc : List Vi} {z : Vi} (h : z.id ≠ 0) (h' : acc.getLast?.map Vi.mem ≠ some z.mem) : rowS acc z = acc ++ [z] := by unfold rowS; rw [if_neg h, if_neg h']
/-- The row when k are done. -/
def RowTo (zs : List Vi) (k : Nat) (acc : List Vi) : Prop := acc = (zs.take k).foldl rowS []
theorem RowTo.start (zs : List Vi) : RowTo zs 0 [] := by simp [RowTo]
theorem RowTo.step {zs acc : List Vi} {k : Nat} (h : RowTo zs k acc) (hk : k < zs.length) : RowTo zs (k + 1) (rowS acc zs[k]) := by
  unfold RowTo at *
  rw [List.take_succ_eq_append_getElem hk, List.foldl_append, List.foldl_cons, List.foldl_nil, ← h]
theorem RowTo.done {zs acc : List Vi} {k : Nat} (h : RowTo zs k acc) (hk : zs.length ≤ k) : acc = rowF zs := by
  unfold RowTo at h
  rwa [List.take_of_length_le hk] at h
theorem locs_ex (p : Pr) : ∀ l : List Vi, ∃ zs : List Vi, zs.length = l.length ∧ ∀ i (h1 : i < l.length) (h2 : i < zs.length), LocP l[i] p zs[i]
  | [] => ⟨[], rfl, fun i h1 _ => by simp at h1⟩
  | v :: l => by
    obtain ⟨z, hz⟩ := locP_ex v p
    obtain ⟨zs, h1, h2⟩ := locs_ex p l
    refine ⟨z :: zs, by simp [h1], fun i h3 h4 => ?_⟩
    cases i with
    | zero => exact hz
    | succ i => exact h2 i (by simpa using h3) (by simpa using h4)
/-- The last one, by its place. -/
theorem last_at {acc : List Vi} {n : Nat} (h : acc.length = n + 1) : ∃ h : n < acc.length, acc.getLast?.map Vi.mem = some acc[n].mem := by
  refine ⟨by omega, ?_⟩
  have e : acc.length - 1 = n := by omega
  have h1 : acc[acc.length - 1]? = some (acc[n]'(by omega)) := by simp only [e]; exact List.getElem?_eq_getElem (by omega)
  rw [List.getLast?_eq_getElem?, h1]
  rfl
end Go.Proofs.Ythloamhodapmpaa
