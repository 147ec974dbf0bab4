import Derived.StillTail
import Derived.Test.YtjmkecaljkcoiaaDoorQFlow
import Derived.Laws.Rows
namespace Go.Proofs.YtjmkecaljkcoiaaDoor
open Go.RowKit
section
variable {P : Program} {ops : Array Oper} {md : Region.Mode} {w0 : World} {n : Nat} {Γ : Tmp → Word}
def wpHeadT (P : Program) (md : Region.Mode) (ops : Array Oper) (w0 : World) (n m : Nat) (L : Array Bool → (Tmp → Word) → Prop) : Nat → Array Bool → (Tmp → Word) → Prop
  | 0, listed, Γ => L listed Γ
  | f + 1, listed, Γ => Region.ready md ops listed ≠ [] ∧ ∀ i ∈ Region.ready md ops listed, i < m ∧ tOp P ops w0 n i (wpHeadT P md ops w0 n m L f (listed.setIfInBounds i true)) Γ
theorem wpHeadT_first {m i : Nat} {oi : Oper} {g : Word} {L : Array Bool → (Tmp → Word) → Prop} (hi : ops[i]? = some oi) (hg : Steady g)
    (hs : Region.sinkB md ops m = true) (hc : Region.chainB md ops m = true) (hn : m < ops.size) (hin : i < m)
    (hdone : ∀ listed Γ, L listed Γ → ∀ j ∈ Region.ready md ops listed, m ≤ j) :
    ∀ (f : Nat) (listed : Array Bool) (Γ : Tmp → Word), HeadInv md ops m listed →
      (∀ j oj, ops[j]? = some oj → j ≠ i → listed.getD j true = false → (∀ e ∈ oj.after, Region.binds md e = true → e.on ≠ i) → oi.apart ops oj = true) →
      i ∈ Region.ready md ops listed → Spec P ops w0 n Γ oi g →
      wpHeadT P md ops w0 n m L f (listed.setIfInBounds i true) (tput Γ oi.dst g) → wpHeadT P md ops w0 n m L (f + 1) listed Γ := by
  intro f
  induction f with
  | zero =>
    intro listed Γ inv _ hr hy H
    have hun := (mem_ready.1 hr).1
    refine ⟨fun h => (by rw [h] at hr; cases hr), fun j hj => ?_⟩
    have hjm : j < m := by
      rcases Nat.lt_or_ge j m with h | h
      · exact h
      · exact absurd hj (tail_waits hs hc hn inv _ i rfl hin hun j h)
    refine ⟨hjm, ?_⟩
    by_cases hji : j = i
    · subst hji
      unfold tOp; rw [hi]; exact ⟨g, hg, hy, H⟩
    · have := hdone _ _ H j (ready_mono hj hji)
      omega
  | succ f ih =>
    intro listed Γ inv hfree hr hy H
    have hun := (mem_ready.1 hr).1
    refine ⟨fun h => (by rw [h] at hr; cases hr), fun j hj => ?_⟩
    have hjm : j < m := by
      rcases Nat.lt_or_ge j m with h | h
      · exact h
      · exact absurd hj (tail_waits hs hc hn inv _ i rfl hin hun j h)
    refine ⟨hjm, ?_⟩
    by_cases hji : j = i
    · subst hji
      unfold tOp; rw [hi]; exact ⟨g, hg, hy, H⟩
    · obtain ⟨hjun, oj, hoj, hall⟩ := mem_ready.1 hj
      have hnot : ∀ e ∈ oj.after, Region.binds md e = true → e.on ≠ i := fun e he hb heq => by
        have h1 := hall e he hb
        rw [heq, getD_both hun] at h1
        cases h1
      obtain ⟨p1, p2, p3⟩ := Oper.apart_spec (hfree j oj hoj hji hjun hnot)
      have hstep := (H.2 j (ready_mono hj hji)).2
      unfold tOp at hstep ⊢
      rw [hoj] at hstep ⊢
      obtain ⟨gj, hsj, hyj, hK⟩ := hstep
      refine ⟨gj, hsj, hyj.unput p1, ?_⟩
      refine ih (listed.setIfInBounds j true) _ (inv.set hj hjm) (fun k ok hk hki hunk hnk => hfree k ok hk hki ?_ hnk) (ready_mono hr (Ne.symm hji)) (hy.put p3) ?_
      · by_cases hjk : j = k
        · subst hjk; exact hjun
        · rw [getD_set_ne true hjk] at hunk; exact hunk
      · rw [Array.setIfInBounds_comm _ _ hji, ← tput_comm Γ _ _ _ _ p2]
        exact hK
theorem wpHeadT_lex {m g : Nat} {Lq : (Tmp → Word) → Prop} (hs : Region.sinkB md ops m = true) (hc : Region.chainB md ops m = true) (hn : m < ops.size) :
    ∀ (l : List Oper) (k : Nat) (listed : Array Bool) (Γ : Tmp → Word), (∀ j, j < l.length → l[j]? = ops[k + j]?) → k + l.length = m → HeadInv md ops m listed →
    Region.lexHead md ops g l.length k listed = true → flow P ops w0 n Lq l Γ →
    wpHeadT P md ops w0 n m (fun listed' Γ' => Region.seqB md ops g m listed' = true ∧ Lq Γ') l.length listed Γ
  | [], k, listed, Γ, _, hk, _, hB, h => by
    have : k = m := by simpa using hk
    subst this
    exact ⟨by simpa [Region.lexHead] using hB, h⟩
  | o :: l, k, listed, Γ, hl, hk, inv, hB, h => by
    have h0 : ops[k]? = some o := by simpa using (hl 0 (by simp)).symm
    simp only [List.length_cons, Region.lexHead, Bool.and_eq_true] at hB
    obtain ⟨⟨hr, hf⟩, hB'⟩ := hB
    have hkn : k < m := by simp only [List.length_cons] at hk; omega
    have hr' : k ∈ Region.ready md ops listed := by simpa using hr
    obtain ⟨g', hg', hy, hK⟩ := h
    exact wpHeadT_first h0 hg' hs hc hn hkn (fun listed' Γ' hL => seqB_ready hL.1) l.length listed Γ inv (Region.free_spec h0 hf) hr' hy
      (wpHeadT_lex hs hc hn l (k + 1) _ _ (fun j hj => by have := hl (j + 1) (by simp; omega); simpa [Nat.add_assoc, Nat.add_comm 1 j] using this) (by simp only [List.length_cons] at hk; omega) (inv.set hr' hkn) hB' hK)
theorem wpAny_of_headT {m g : Nat} {L : Array Bool → (Tmp → Word) → Prop} {Q : Exit → Act → World → Prop} {ds : List Deferred} (hdst : ∀ o ∈ ops, ∀ t, o.dst = some t → t < n)
    (hL : ∀ listed Γ a w, Good w0 n ds Γ a w → L listed Γ → wpAny P md ops Q g listed a w) : ∀ (f : Nat) (listed : Array Bool) (Γ : Tmp → Word) (a : Act) (w : World), (∀ t, Steady (Γ t)) → Good w0 n ds Γ a w →
    wpHeadT P md ops w0 n m L f listed Γ → wpAny P md ops Q (f + g) listed a w
  | 0, _, _, _, _, _, hg, h => by rw [Nat.zero_add]; exact hL _ _ _ _ hg h
  | f + 1, _, _, _, _, hst, hg, h => by
    rw [show f + 1 + g = (f + g) + 1 by omega]
    exact ⟨fun h0 => absurd h0 h.1, fun i hi => wpOp_of_tOp hdst hst hg (fun Γ' a' w' hst' hg' hk => wpAny_of_headT hdst hL f _ Γ' a' w' hst' hg' hk) (h.2 i hi).2⟩
theorem wp_region_flow_tail {id : Nat} {Q : Exit → Act → World → Prop} {a : Act} {w : World} {l : List Oper} (m : Nat) (hm : P.follows .mixedOrders = true) (hB : Region.lexTailB .any l.toArray m = true) (hn : dstB l a.tmps.size = true)
    (h : flow P l.toArray w a.tmps.size (fun Γ => ∀ (f : Nat → Value) (w' : World), Below w.heap.size w w' → (∀ t, Γ t (f t) w') → wpList P l.toArray Q (l.drop m) (frameOf f a.tmps.size a.defers) w') (l.take m) (frameW a)) :
    (Code.region id l.toArray true).wp P Q a w := by
  simp only [Region.lexTailB, Bool.and_eq_true, decide_eq_true_eq] at hB
  obtain ⟨⟨⟨⟨hsel, hnn⟩, hs⟩, hc⟩, hlex⟩ := hB
  have hn' : m < l.length := by simpa using hnn
  have htl : (l.take m).length = m := by simp; omega
  have hdl : (l.drop m).length = l.toArray.size - m := by simp
  have inv0 : HeadInv .any l.toArray m (Array.replicate l.toArray.size false) :=
    ⟨by simp, fun j oj _ hl => (by rw [getD_replicate_false] at hl; cases hl), fun t _ ht => getD_in (by simpa using ht) (getD_replicate_false _ _)⟩
  have H := wpHeadT_lex (md := .any) (g := l.toArray.size - m) hs hc hnn (l.take m) 0 _ (frameW a) (fun j hj => by
    have hj' : j < m := by rw [htl] at hj; exact hj
    simp [hj']) (by simpa using htl) inv0 (by rw [htl]; exact hlex) h
  refine wp_region_any hm ?_
  have := wpAny_of_headT (w0 := w) (n := a.tmps.size) (ds := a.defers) (Q := Q) (g := l.toArray.size - m) (by simpa using dstB_spec hn) (fun listed Γ a' w' hg hL => by
    have e := frameOf_eval a'
    rw [hg.size, hg.defers] at e
    have h9 := wpAny_of_seq (P := P) (ops := l.toArray) (md := .any) (Q' := Q) (l.drop m) m listed a' w' (fun j => by simp [List.getElem?_drop]) (by rw [hdl]; exact hL.1) (by
      rw [e]
      exact hL.2 _ w' hg.later hg.word)
    rwa [hdl] at h9) _ _ (frameW a) a { w with drawn := w.drawn + 1 } (frameW_steady a) ⟨rfl, rfl, (Below.refl _ _).drew, fun _ => rfl⟩ H
  rw [htl, show m + (l.toArray.size - m) = l.toArray.size by omega] at this
  exact this
end
end Go.Proofs.YtjmkecaljkcoiaaDoor
namespace Go.Proofs.YtjmkecaljkcoiaaDoor
open Go.RowKit
structure Sep (D : List Tmp) (a : Act) (w : World) : Prop where
  low : ∀ s ∈ D, ∀ p, a.eval (.tmp s) = .pointer (some p) → p.block < w.heap.size
  ne : ∀ s ∈ D, ∀ t ∈ D, s ≠ t → ∀ p q, a.eval (.tmp s) = .pointer (some p) → a.eval (.tmp t) = .pointer (some q) → p.block ≠ q.block
theorem eval_put_other (a : Act) (d : Option Tmp) (v : Value) (t : Tmp) (h : d ≠ some t) : (a.put d v).eval (.tmp t) = a.eval (.tmp t) :=
  Act.eval_put (fun e he hx => h (by injection hx with hx; rw [he, hx]))
theorem eval_put_same (a : Act) (d : Tmp) (v : Value) (h : d < a.tmps.size) : (a.put (some d) v).eval (.tmp d) = v := by
  simp [Act.eval, Act.put, h]
theorem Sep.other {D : List Tmp} {a : Act} {w w' : World} {d : Option Tmp} {v : Value} (h : Sep D a w) (hd : ∀ t ∈ D, d ≠ some t) (hw : w.heap.size ≤ w'.heap.size) : Sep D (a.put d v) w' := by
  refine ⟨fun s hs p hp => ?_, fun s hs t ht hst p q hp hq => ?_⟩
  · rw [eval_put_other a d v s (hd s hs)] at hp
    exact Nat.lt_of_lt_of_le (h.low s hs p hp) hw
  · rw [eval_put_other a d v s (hd s hs)] at hp
    rw [eval_put_other a d v t (hd t ht)] at hq
    exact h.ne s hs t ht hst p q hp hq
theorem Sep.new {D : List Tmp} {a : Act} {w : World} {d : Tmp} (h : Sep D a w) (hd : d < a.tmps.size) (ob : Obj) : Sep D (a.put (some d) (.pointer (some ⟨w.heap.size, 0, none⟩))) (w.alloc ob) := by
  have hz : (w.alloc ob).heap.size = w.heap.size + 1 := by simp
  refine ⟨fun s hs p hp => ?_, fun s hs t ht hst p q hp hq => ?_⟩
  · by_cases hsd : s = d
    · subst hsd
      rw [eval_put_same a s _ hd] at hp
      injection hp with hp; injection hp with hp
      subst hp
      simp
    · rw [eval_put_other a _ _ s (fun e => hsd (Option.some.inj e).symm)] at hp
      have := h.low s hs p hp
      omega
  · by_cases hsd : s = d
    · subst hsd
      rw [eval_put_same a s _ hd] at hp
      rw [eval_put_other a _ _ t (fun e => hst (Option.some.inj e))] at hq
      have := h.low t ht q hq
      injection hp with hp; injection hp with hp
      subst hp
      simp only
      omega
    · rw [eval_put_other a _ _ s (fun e => hsd (Option.some.inj e).symm)] at hp
      by_cases htd : t = d
      · subst htd
        rw [eval_put_same a t _ hd] at hq
        have := h.low s hs p hp
        injection hq with hq; injection hq with hq
        subst hq
        simp only
        omega
      · rw [eval_put_other a _ _ t (fun e => htd (Option.some.inj e).symm)] at hq
        exact h.ne s hs t ht hst p q hp hq
section
variable {P : Program} {ops : Array Oper} {md : Region.Mode} {w0 : World} {n : Nat} {Γ : Tmp → Word} {D : List Tmp}
def Makers (P : Program) (ops : Array Oper) (D : List Tmp) : Prop :=
  ∀ o ∈ ops, ∀ d ∈ D, o.dst = some d → o.guard = none ∧ ∃ ob, ∀ (ρ : Operand → Value) (w : World), (execOp ρ o).run P w = .ok (.value (.pointer (some ⟨w.heap.size, 0, none⟩))) (w.alloc ob)
def makersB (l : List Oper) (D : List Tmp) (T : TypeId) : Bool :=
  l.all fun o => match o.dst with
    | some d => !(D.contains d) || (o.guard.isNone && (match o.op with | .alloc t => t == T | _ => false))
    | none => true
def NewW (T : TypeId) (cs : Array Value) (B : Nat) : Word := fun v w => ∃ g, v = .pointer (some ⟨g, 0, none⟩) ∧ B ≤ g ∧ w.heap[g]? = some (.cells cs T (0, 0))
variable {E : (Tmp → Word) → Prop} {o : Oper} {l : List Oper}
end
end Go.Proofs.YtjmkecaljkcoiaaDoor
