/-
  A region that draws its order, whose first operations leave what is old as it is (each is given what its value is good for: XFlow), and whose last ones wait for all of the first and for one another: these are walked one by one.
-/
import Derived.StillTail
import Derived.Test.YtdmihbicpjmgjaaQFlow
namespace Go.Proofs.Ytdmihbicpjmgjaa
open Go.RowKit

section
variable {P : Program} {ops : Array Oper} {md : Region.Mode} {w0 : World} {n : Nat} {Γ : Tmp → Word}
/-- Whatever order is picked among the first m; then L. -/
def wpHeadT (P : Program) (md : Region.Mode) (ops : Array Oper) (w0 : World) (n m : Nat) (L : Array Bool → (Tmp → Word) → Prop) : Nat → Array Bool → (Tmp → Word) → Prop
  | 0, listed, Γ => L listed Γ
  | f + 1, listed, Γ => Region.ready md ops listed ≠ [] ∧ ∀ i ∈ Region.ready md ops listed, i < m ∧ tOp P ops w0 n i (wpHeadT P md ops w0 n m L f (listed.setIfInBounds i true)) Γ
theorem wpHeadT_first {m i : Nat} {oi : Oper} {g : Word} {L : Array Bool → (Tmp → Word) → Prop} (hi : ops[i]? = some oi) (hg : Steady g)
    (hs : Region.sinkB md ops m = true) (hc : Region.chainB md ops m = true) (hn : m < ops.size) (hin : i < m)
    (hdone : ∀ listed Γ, L listed Γ → ∀ j ∈ Region.ready md ops listed, m ≤ j) :
    ∀ (f : Nat) (listed : Array Bool) (Γ : Tmp → Word), HeadInv md ops m listed →
      (∀ j oj, ops[j]? = some oj → j ≠ i → listed.getD j true = false → (∀ e ∈ oj.after, Region.binds md e = true → e.on ≠ i) → oi.apart ops oj = true) →
      i ∈ Region.ready md ops listed → Spec P ops w0 n Γ oi g →
      wpHeadT P md ops w0 n m L f (listed.setIfInBounds i true) (tput Γ oi.dst g) → wpHeadT P md ops w0 n m L (f + 1) listed Γ := by
  intro f
  induction f with
  | zero =>
    intro listed Γ inv _ hr hy H
    have hun := (mem_ready.1 hr).1
    refine ⟨fun h => (by rw [h] at hr; cases hr), fun j hj => ?_⟩
    have hjm : j < m := by
      rcases Nat.lt_or_ge j m with h | h
      · exact h
      · exact absurd hj (tail_waits hs hc hn inv _ i rfl hin hun j h)
    refine ⟨hjm, ?_⟩
    by_cases hji : j = i
    · subst hji
      unfold tOp; rw [hi]; exact ⟨g, hg, hy, H⟩
    · have := hdone _ _ H j (ready_mono hj hji)
      omega
  | succ f ih =>
    intro listed Γ inv hfree hr hy H
    have hun := (mem_ready.1 hr).1
    refine ⟨fun h => (by rw [h] at hr; cases hr), fun j hj => ?_⟩
    have hjm : j < m := by
      rcases Nat.lt_or_ge j m with h | h
      · exact h
      · exact absurd hj (tail_waits hs hc hn inv _ i rfl hin hun j h)
    refine ⟨hjm, ?_⟩
    by_cases hji : j = i
    · subst hji
      unfold tOp; rw [hi]; exact ⟨g, hg, hy, H⟩
    · obtain ⟨hjun, oj, hoj, hall⟩ := mem_ready.1 hj
      have hnot : ∀ e ∈ oj.after, Region.binds md e = true → e.on ≠ i := fun e he hb heq => by
        have h1 := hall e he hb
        rw [heq, getD_both hun] at h1
        cases h1
      obtain ⟨p1, p2, p3⟩ := Oper.apart_spec (hfree j oj hoj hji hjun hnot)
      have hstep := (H.2 j (ready_mono hj hji)).2
      unfold tOp at hstep ⊢
      rw [hoj] at hstep ⊢
      obtain ⟨gj, hsj, hyj, hK⟩ := hstep
      refine ⟨gj, hsj, hyj.unput p1, ?_⟩
      refine ih (listed.setIfInBounds j true) _ (inv.set hj hjm) (fun k ok hk hki hunk hnk => hfree k ok hk hki ?_ hnk) (ready_mono hr (Ne.symm hji)) (hy.put p3) ?_
      · by_cases hjk : j = k
        · subst hjk; exact hjun
        · rw [getD_set_ne true hjk] at hunk; exact hunk
      · rw [Array.setIfInBounds_comm _ _ hji, ← tput_comm Γ _ _ _ _ p2]
        exact hK
theorem wpHeadT_lex {m g : Nat} {Lq : (Tmp → Word) → Prop} (hs : Region.sinkB md ops m = true) (hc : Region.chainB md ops m = true) (hn : m < ops.size) :
    ∀ (l : List Oper) (k : Nat) (listed : Array Bool) (Γ : Tmp → Word), (∀ j, j < l.length → l[j]? = ops[k + j]?) → k + l.length = m → HeadInv md ops m listed →
    Region.lexHead md ops g l.length k listed = true → flow P ops w0 n Lq l Γ →
    wpHeadT P md ops w0 n m (fun listed' Γ' => Region.seqB md ops g m listed' = true ∧ Lq Γ') l.length listed Γ
  | [], k, listed, Γ, _, hk, _, hB, h => by
    have : k = m := by simpa using hk
    subst this
    exact ⟨by simpa [Region.lexHead] using hB, h⟩
  | o :: l, k, listed, Γ, hl, hk, inv, hB, h => by
    have h0 : ops[k]? = some o := by simpa using (hl 0 (by simp)).symm
    simp only [List.length_cons, Region.lexHead, Bool.and_eq_true] at hB
    obtain ⟨⟨hr, hf⟩, hB'⟩ := hB
    have hkn : k < m := by simp only [List.length_cons] at hk; omega
    have hr' : k ∈ Region.ready md ops listed := by simpa using hr
    obtain ⟨g', hg', hy, hK⟩ := h
    exact wpHeadT_first h0 hg' hs hc hn hkn (fun listed' Γ' hL => seqB_ready hL.1) l.length listed Γ inv (Region.free_spec h0 hf) hr' hy
      (wpHeadT_lex hs hc hn l (k + 1) _ _ (fun j hj => by have := hl (j + 1) (by simp; omega); simpa [Nat.add_assoc, Nat.add_comm 1 j] using this) (by simp only [List.length_cons] at hk; omega) (inv.set hr' hkn) hB' hK)
theorem wpAny_of_headT {m g : Nat} {L : Array Bool → (Tmp → Word) → Prop} {Q : Exit → Act → World → Prop} {ds : List Deferred} (hdst : ∀ o ∈ ops, ∀ t, o.dst = some t → t < n)
    (hL : ∀ listed Γ a w, Good w0 n ds Γ a w → L listed Γ → wpAny P md ops Q g listed a w) : ∀ (f : Nat) (listed : Array Bool) (Γ : Tmp → Word) (a : Act) (w : World), (∀ t, Steady (Γ t)) → Good w0 n ds Γ a w →
    wpHeadT P md ops w0 n m L f listed Γ → wpAny P md ops Q (f + g) listed a w
  | 0, _, _, _, _, _, hg, h => by rw [Nat.zero_add]; exact hL _ _ _ _ hg h
  | f + 1, _, _, _, _, hst, hg, h => by
    rw [show f + 1 + g = (f + g) + 1 by omega]
    exact ⟨fun h0 => absurd h0 h.1, fun i hi => wpOp_of_tOp hdst hst hg (fun Γ' a' w' hst' hg' hk => wpAny_of_headT hdst hL f _ Γ' a' w' hst' hg' hk) (h.2 i hi).2⟩
/-- THE REGION: the first m in the words of XFlow, the rest walked. -/
theorem wp_region_flow_tail {id : Nat} {Q : Exit → Act → World → Prop} {a : Act} {w : World} {l : List Oper} (m : Nat) (hm : P.follows .mixedOrders = true) (hB : Region.lexTailB .any l.toArray m = true) (hn : dstB l a.tmps.size = true)
    (h : flow P l.toArray w a.tmps.size (fun Γ => ∀ (f : Nat → Value) (w' : World), Below w.heap.size w w' → (∀ t, Γ t (f t) w') → wpList P l.toArray Q (l.drop m) (frameOf f a.tmps.size a.defers) w') (l.take m) (frameW a)) :
    (Code.region id l.toArray true).wp P Q a w := by
  simp only [Region.lexTailB, Bool.and_eq_true, decide_eq_true_eq] at hB
  obtain ⟨⟨⟨⟨hsel, hnn⟩, hs⟩, hc⟩, hlex⟩ := hB
  have hn' : m < l.length := by simpa using hnn
  have htl : (l.take m).length = m := by simp; omega
  have hdl : (l.drop m).length = l.toArray.size - m := by simp
  have inv0 : HeadInv .any l.toArray m (Array.replicate l.toArray.size false) :=
    ⟨by simp, fun j oj _ hl => (by rw [getD_replicate_false] at hl; cases hl), fun t _ ht => getD_in (by simpa using ht) (getD_replicate_false _ _)⟩
  have H := wpHeadT_lex (md := .any) (g := l.toArray.size - m) hs hc hnn (l.take m) 0 _ (frameW a) (fun j hj => by
    have hj' : j < m := by rw [htl] at hj; exact hj
    simp [hj']) (by simpa using htl) inv0 (by rw [htl]; exact hlex) h
  refine wp_region_any hm ?_
  have := wpAny_of_headT (w0 := w) (n := a.tmps.size) (ds := a.defers) (Q := Q) (g := l.toArray.size - m) (by simpa using dstB_spec hn) (fun listed Γ a' w' hg hL => by
    have e := frameOf_eval a'
    rw [hg.size, hg.defers] at e
    have h9 := wpAny_of_seq (P := P) (ops := l.toArray) (md := .any) (Q' := Q) (l.drop m) m listed a' w' (fun j => by simp [List.getElem?_drop]) (by rw [hdl]; exact hL.1) (by
      rw [e]
      exact hL.2 _ w' hg.later hg.word)
    rwa [hdl] at h9) _ _ (frameW a) a { w with drawn := w.drawn + 1 } (frameW_steady a) ⟨rfl, rfl, (Below.refl _ _).drew, fun _ => rfl⟩ H
  rw [htl, show m + (l.toArray.size - m) = l.toArray.size by omega] at this
  exact this
end
end Go.Proofs.Ytdmihbicpjmgjaa
