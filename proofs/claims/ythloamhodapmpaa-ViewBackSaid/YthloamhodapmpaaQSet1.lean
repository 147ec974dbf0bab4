/-
  Sets of processes behind a pointer: the words. Plain lemmas.
-/
import Derived.Maps.RangeWalk
import Derived.Test.YthloamhodapmpaaQSortM
import Derived.Test.YthloamhodapmpaaQTurn
namespace Go.Proofs.Ythloamhodapmpaa
open Go.RowKit Go.Maps
set_option linter.unusedVariables false
set_option linter.unusedSimpArgs false

/-- Block g is a map that holds just the processes acc, each once. -/
def SetD (w : World) (g : Nat) (acc : List Pr) : Prop :=
  ∃ D : DataW Unit, w.ownsMap Try.prog 34 unitElem g acc.length D ∧ (∀ p : Pr, Maps.has D p.key = decide (p ∈ acc)) ∧ Maps.size D = acc.length ∧ acc.Nodup
/-- Block b is a set whose map is mg, and that holds acc. -/
def SetAt (w : World) (b : Nat) (mg : Option Nat) (acc : List Pr) : Prop :=
  w.heap[b]? = some (.cells #[.map mg] 99 (0, 0)) ∧ ((mg = none ∧ acc = []) ∨ ∃ g, mg = some g ∧ SetD w g acc)

theorem ownsMap_tight {P : Program} {k : TypeId} {R : Value → Option (DataW Unit × List MemPlace)} {w : World} {b n m : Nat} {D : DataW Unit} (h : w.ownsMap P k R b n D) (hm : Maps.size D ≤ m) : w.ownsMap P k R b m D := by
  obtain ⟨es, clock, hb, F, hs, hD⟩ := h
  refine ⟨es, clock, hb, F, ?_, hD⟩
  subst hD
  simpa [Maps.size, length_sorted] using hm
theorem keyLit (p : Pr) : WideAt.IsKeyLit p.key := lawPid.key (key_pr p)

section
variable {w w' : World} {b g : Nat} {mg : Option Nat} {acc l : List Pr}
theorem SetD.lt (h : SetD w g acc) : g < w.heap.size := by
  obtain ⟨D, h1, _⟩ := h
  exact h1.lt
theorem SetD.block (h : SetD w g acc) (hb : w'.heap[g]? = w.heap[g]?) : SetD w' g acc := by
  obtain ⟨D, ⟨es, clock, h1, r⟩, h2⟩ := h
  exact ⟨D, ⟨es, clock, hb.trans h1, r⟩, h2⟩
theorem SetD.nodup (h : SetD w g acc) : acc.Nodup := by
  obtain ⟨D, _, _, _, h⟩ := h
  exact h
/-- The same processes, told in another order. -/
theorem SetD.same (h : SetD w g acc) (hn : l.Nodup) (hm : ∀ p, p ∈ l ↔ p ∈ acc) : SetD w g l := by
  obtain ⟨D, h1, h2, h3, h4⟩ := h
  have e : l.length = acc.length := ((List.perm_ext_iff_of_nodup hn h4).2 hm).length_eq
  exact ⟨D, by rw [e]; exact h1, fun p => by rw [h2 p, decide_eq_decide.2 (hm p).symm], by rw [e]; exact h3, hn⟩
theorem SetD.made (w : World) : SetD (w.alloc (.map #[] 0)) w.heap.size [] := ⟨.map [], World.ownsMap_made _ _ _ _, fun p => by simp [Maps.has], rfl, List.nodup_nil⟩
theorem SetD.put {n : Nat} {D : DataW Unit} {q : Pr} (hD : w.ownsMap Try.prog 34 unitElem g n D) (hh : ∀ p : Pr, Maps.has D p.key = decide (p ∈ acc)) (hs : Maps.size D = acc.length) (hn : acc.Nodup) (hq : q ∉ acc) (d : DataW Unit) {m : Nat}
    (h' : w'.ownsMap Try.prog 34 unitElem g m (D.put q.key d)) : SetD w' g (acc ++ [q]) := by
  have e1 : Maps.size (D.put q.key d) = (acc ++ [q]).length := by
    rw [size_put (hD.tidy lawPid), hh q, decide_eq_false hq]; simp [hs]
  refine ⟨_, ownsMap_tight h' (Nat.le_of_eq e1), fun p => ?_, e1, List.nodup_append.2 ⟨hn, by simp, fun a ha c hc => by rw [List.mem_singleton] at hc; subst hc; exact fun e => hq (e ▸ ha)⟩⟩
  by_cases e : p = q
  · subst e
    rw [has_put_same hD.isMap (keyLit p) d]
    simp
  · rw [has_put_other (fun e' => e (Pr.key_inj e')) d, hh p]
    simp [e]
theorem length_erase {q : Pr} : ∀ {l : List Pr}, l.Nodup → q ∈ l → (l.filter fun x => decide (x ≠ q)).length + 1 = l.length
  | [], _, h => by simp at h
  | a :: r, hn, h => by
    obtain ⟨h1, h2⟩ := List.nodup_cons.1 hn
    by_cases e : a = q
    · subst e
      have e2 : (r.filter fun x => decide (x ≠ a)) = r := List.filter_eq_self.2 fun x hx => decide_eq_true (fun e => h1 (e ▸ hx))
      simp only [List.filter_cons, ne_eq, not_true_eq_false, decide_false, Bool.false_eq_true, if_false, List.length_cons]
      show (r.filter fun x => decide (x ≠ a)).length + 1 = _
      rw [e2]
    · have hr : q ∈ r := by
        rcases List.mem_cons.1 h with h | h
        · exact absurd h.symm e
        · exact h
      have := length_erase h2 hr
      rw [List.filter_cons, if_pos (decide_eq_true e), List.length_cons, List.length_cons, this]
theorem SetD.del {n : Nat} {D : DataW Unit} {q : Pr} (hD : w.ownsMap Try.prog 34 unitElem g n D) (hh : ∀ p : Pr, Maps.has D p.key = decide (p ∈ acc)) (hs : Maps.size D = acc.length) (hn : acc.Nodup) (hq : q ∈ acc) {m : Nat}
    (h' : w'.ownsMap Try.prog 34 unitElem g m (D.del q.key)) : SetD w' g (acc.filter fun x => decide (x ≠ q)) := by
  have e0 := length_erase hn hq
  have e1 : Maps.size (D.del q.key) = (acc.filter fun x => decide (x ≠ q)).length := by
    have := size_del (k := q.key) (hD.tidy lawPid)
    rw [hh q, decide_eq_true hq, if_pos rfl] at this
    omega
  refine ⟨_, ownsMap_tight h' (Nat.le_of_eq e1), fun p => ?_, e1, hn.filter _⟩
  by_cases e : p = q
  · subst e
    rw [has_del_same]
    simp
  · rw [has_del_other (fun e' => e (Pr.key_inj e')), hh p]
    simp [e]
theorem SetAt.lt (h : SetAt w b mg acc) : b < w.heap.size := (Array.getElem?_eq_some_iff.1 h.1).1
theorem SetAt.mlt (h : SetAt w b mg acc) : ∀ g, mg = some g → g < w.heap.size ∧ g ≠ b := by
  intro g hg
  subst hg
  rcases h.2 with ⟨h0, _⟩ | ⟨g', hg', hd⟩
  · cases h0
  · injection hg' with e
    subst e
    refine ⟨hd.lt, fun e => ?_⟩
    obtain ⟨D, ⟨es, clock, h1, _⟩, _⟩ := hd
    rw [e, h.1] at h1
    cases h1
theorem SetAt.nodup (h : SetAt w b mg acc) : acc.Nodup := by
  rcases h.2 with ⟨_, rfl⟩ | ⟨g, _, hd⟩
  · exact List.nodup_nil
  · exact hd.nodup
theorem SetAt.keep (h : SetAt w b mg acc) (h1 : w'.heap[b]? = w.heap[b]?) (h2 : ∀ g, mg = some g → w'.heap[g]? = w.heap[g]?) : SetAt w' b mg acc := by
  refine ⟨h1.trans h.1, ?_⟩
  rcases h.2 with h0 | ⟨g, hg, hd⟩
  · exact .inl h0
  · exact .inr ⟨g, hg, hd.block (h2 g hg)⟩
theorem SetAt.below {B : Nat} (h : SetAt w b mg acc) (hb : Below B w w') (hB : b < B) (hm : ∀ g, mg = some g → g < B) : SetAt w' b mg acc := h.keep (hb.block b hB) fun g hg => hb.block g (hm g hg)
theorem SetAt.later (h : SetAt w b mg acc) (hb : Below w.heap.size w w') : SetAt w' b mg acc := h.below hb h.lt fun g hg => (h.mlt g hg).1
theorem SetAt.alloc (h : SetAt w b mg acc) (o : Obj) : SetAt (w.alloc o) b mg acc := h.later ((Below.refl _ _).alloc (Nat.le_refl _) o)
theorem SetAt.drewN (h : SetAt w b mg acc) (n : Nat) : SetAt (w.drewN n) b mg acc := h
theorem SetAt.drew (h : SetAt w b mg acc) : SetAt w.drew b mg acc := h
theorem SetAt.cell (h : SetAt w b mg acc) : w.cell? ⟨b, 0, none⟩ = some (.map mg) := cell_of_row w b 0 _ _ (0, 0) h.1
theorem SetAt.frozen (h : SetAt w b mg acc) : w.frozen? ⟨b, 0, none⟩ = false := by simp [World.frozen?, h.1]
theorem SetAt.same (h : SetAt w b mg acc) (hn : l.Nodup) (hm : ∀ p, p ∈ l ↔ p ∈ acc) : SetAt w b mg l := by
  refine ⟨h.1, ?_⟩
  rcases h.2 with ⟨h0, rfl⟩ | ⟨g, hg, hd⟩
  · exact .inl ⟨h0, List.eq_nil_iff_forall_not_mem.2 fun p hp => by have := (hm p).1 hp; simp at this⟩
  · exact .inr ⟨g, hg, hd.same hn hm⟩
/-- A look-up. -/
theorem SetAt.look (h : SetAt w b mg acc) (p : Pr) : (Instr.lookup 97 (.map mg) (.agg #[.int .u16 (p.i : Int), .int .u32 (p.k : Int)]) true).run Try.prog w = .ok (.tuple #[.agg #[], .bool (decide (p ∈ acc))]) w := by
  rcases h.2 with ⟨rfl, rfl⟩ | ⟨g, rfl, D, hD, hh, _, _⟩
  · rw [Maps.look_nil true lawPid Try.underlying97 (zeroUnit w) (key_pr p)]
    simp
  · obtain ⟨v, ps, hrun, hv⟩ := hD.look_ok lawPid Try.underlying97 (zeroUnit w) unitElem_mk (key_pr p)
    obtain ⟨rfl, _⟩ := unitElem_inv hv
    rw [hrun, hh p]
/-- 'len'. -/
theorem SetAt.size (h : SetAt w b mg acc) (ty : TypeId) : (Builtin.len_ #[97] ty #[.map mg]).run Try.prog w = .ok (.int .i64 (acc.length : Int)) w := by
  rcases h.2 with ⟨rfl, rfl⟩ | ⟨g, rfl, D, hD, _, hs, _⟩
  · exact Maps.len_nil Try.underlying97 ty
  · rw [hD.len Try.underlying97 ty, hs]
end

section
variable {w w' w2 : World} {b g : Nat} {mg mg' mg2 : Option Nat} {acc l : List Pr}
/-- A row of processes that the call owns isn't the set. -/
theorem OwnE.turn {base n : Nat} {v : Value} (h : OwnP w base v n l) (hs : SetAt w b mg acc) (ht : Turn w w' b mg) : OwnP w' base v n l := by
  refine ⟨h.1, ?_⟩
  rcases h.2 with hn | ⟨g, cap, cur, rfl, hbg, hg, r⟩
  · exact .inl hn
  · refine .inr ⟨g, cap, cur, rfl, hbg, (ht.block g (Array.getElem?_eq_some_iff.1 hg).1 (fun e => ?_) (fun e => ?_)).trans hg, r⟩
    · rw [e, hs.1] at hg
      injection hg with hg
      injection hg with _ e2
      exact absurd e2 (by decide)
    · rcases hs.2 with ⟨h0, _⟩ | ⟨g', h0, D, ⟨es, clock, h1, _⟩, _⟩
      · rw [h0] at e; cases e
      · rw [h0] at e
        injection e with e
        subst e
        rw [hg] at h1
        cases h1
end
end Go.Proofs.Ythloamhodapmpaa
