/-
  A region that draws its order, whose first operations leave what is old as it is (each is given what its value is good for: XFlow), and whose last ones wait for all of the first and for one another: these are walked one by one.
-/
import Derived.StillTail
import Derived.Test.YtjmkecaljkcoiaaDoorQFlow
import Derived.Laws.Rows
namespace Go.Proofs.YtjmkecaljkcoiaaDoor
open Go.RowKit

section
variable {P : Program} {ops : Array Oper} {md : Region.Mode} {w0 : World} {n : Nat} {Γ : Tmp → Word}
/-- Whatever order is picked among the first m; then L. -/
def wpHeadT (P : Program) (md : Region.Mode) (ops : Array Oper) (w0 : World) (n m : Nat) (L : Array Bool → (Tmp → Word) → Prop) : Nat → Array Bool → (Tmp → Word) → Prop
  | 0, listed, Γ => L listed Γ
  | f + 1, listed, Γ => Region.ready md ops listed ≠ [] ∧ ∀ i ∈ Region.ready md ops listed, i < m ∧ tOp P ops w0 n i (wpHeadT P md ops w0 n m L f (listed.setIfInBounds i true)) Γ
theorem wpHeadT_first {m i : Nat} {oi : Oper} {g : Word} {L : Array Bool → (Tmp → Word) → Prop} (hi : ops[i]? = some oi) (hg : Steady g)
    (hs : Region.sinkB md ops m = true) (hc : Region.chainB md ops m = true) (hn : m < ops.size) (hin : i < m)
    (hdone : ∀ listed Γ, L listed Γ → ∀ j ∈ Region.ready md ops listed, m ≤ j) :
    ∀ (f : Nat) (listed : Array Bool) (Γ : Tmp → Word), HeadInv md ops m listed →
      (∀ j oj, ops[j]? = some oj → j ≠ i → listed.getD j true = false → (∀ e ∈ oj.after, Region.binds md e = true → e.on ≠ i) → oi.apart ops oj = true) →
      i ∈ Region.ready md ops listed → Spec P ops w0 n Γ oi g →
      wpHeadT P md ops w0 n m L f (listed.setIfInBounds i true) (tput Γ oi.dst g) → wpHeadT P md ops w0 n m L (f + 1) listed Γ := by
  intro f
  induction f with
  | zero =>
    intro listed Γ inv _ hr hy H
    have hun := (mem_ready.1 hr).1
    refine ⟨fun h => (by rw [h] at hr; cases hr), fun j hj => ?_⟩
    have hjm : j < m := by
      rcases Nat.lt_or_ge j m with h | h
      · exact h
      · exact absurd hj (tail_waits hs hc hn inv _ i rfl hin hun j h)
    refine ⟨hjm, ?_⟩
    by_cases hji : j = i
    · subst hji
      unfold tOp; rw [hi]; exact ⟨g, hg, hy, H⟩
    · have := hdone _ _ H j (ready_mono hj hji)
      omega
  | succ f ih =>
    intro listed Γ inv hfree hr hy H
    have hun := (mem_ready.1 hr).1
    refine ⟨fun h => (by rw [h] at hr; cases hr), fun j hj => ?_⟩
    have hjm : j < m := by
      rcases Nat.lt_or_ge j m with h | h
      · exact h
      · exact absurd hj (tail_waits hs hc hn inv _ i rfl hin hun j h)
    refine ⟨hjm, ?_⟩
    by_cases hji : j = i
    · subst hji
      unfold tOp; rw [hi]; exact ⟨g, hg, hy, H⟩
    · obtain ⟨hjun, oj, hoj, hall⟩ := mem_ready.1 hj
      have hnot : ∀ e ∈ oj.after, Region.binds md e = true → e.on ≠ i := fun e he hb heq => by
        have h1 := hall e he hb
        rw [heq, getD_both hun] at h1
        cases h1
      obtain ⟨p1, p2, p3⟩ := Oper.apart_spec (hfree j oj hoj hji hjun hnot)
      have hstep := (H.2 j (ready_mono hj hji)).2
      unfold tOp at hstep ⊢
      rw [hoj] at hstep ⊢
      obtain ⟨gj, hsj, hyj, hK⟩ := hstep
      refine ⟨gj, hsj, hyj.unput p1, ?_⟩
      refine ih (listed.setIfInBounds j true) _ (inv.set hj hjm) (fun k ok hk hki hunk hnk => hfree k ok hk hki ?_ hnk) (ready_mono hr (Ne.symm hji)) (hy.put p3) ?_
      · by_cases hjk : j = k
        · subst hjk; exact hjun
        · rw [getD_set_ne true hjk] at hunk; exact hunk
      · rw [Array.setIfInBounds_comm _ _ hji, ← tput_comm Γ _ _ _ _ p2]
        exact hK
theorem wpHeadT_lex {m g : Nat} {Lq : (Tmp → Word) → Prop} (hs : Region.sinkB md ops m = true) (hc : Region.chainB md ops m = true) (hn : m < ops.size) :
    ∀ (l : List Oper) (k : Nat) (listed : Array Bool) (Γ : Tmp → Word), (∀ j, j < l.length → l[j]? = ops[k + j]?) → k + l.length = m → HeadInv md ops m listed →
    Region.lexHead md ops g l.length k listed = true → flow P ops w0 n Lq l Γ →
    wpHeadT P md ops w0 n m (fun listed' Γ' => Region.seqB md ops g m listed' = true ∧ Lq Γ') l.length listed Γ
  | [], k, listed, Γ, _, hk, _, hB, h => by
    have : k = m := by simpa using hk
    subst this
    exact ⟨by simpa [Region.lexHead] using hB, h⟩
  | o :: l, k, listed, Γ, hl, hk, inv, hB, h => by
    have h0 : ops[k]? = some o := by simpa using (hl 0 (by simp)).symm
    simp only [List.length_cons, Region.lexHead, Bool.and_eq_true] at hB
    obtain ⟨⟨hr, hf⟩, hB'⟩ := hB
    have hkn : k < m := by simp only [List.length_cons] at hk; omega
    have hr' : k ∈ Region.ready md ops listed := by simpa using hr
    obtain ⟨g', hg', hy, hK⟩ := h
    exact wpHeadT_first h0 hg' hs hc hn hkn (fun listed' Γ' hL => seqB_ready hL.1) l.length listed Γ inv (Region.free_spec h0 hf) hr' hy
      (wpHeadT_lex hs hc hn l (k + 1) _ _ (fun j hj => by have := hl (j + 1) (by simp; omega); simpa [Nat.add_assoc, Nat.add_comm 1 j] using this) (by simp only [List.length_cons] at hk; omega) (inv.set hr' hkn) hB' hK)
theorem wpAny_of_headT {m g : Nat} {L : Array Bool → (Tmp → Word) → Prop} {Q : Exit → Act → World → Prop} {ds : List Deferred} (hdst : ∀ o ∈ ops, ∀ t, o.dst = some t → t < n)
    (hL : ∀ listed Γ a w, Good w0 n ds Γ a w → L listed Γ → wpAny P md ops Q g listed a w) : ∀ (f : Nat) (listed : Array Bool) (Γ : Tmp → Word) (a : Act) (w : World), (∀ t, Steady (Γ t)) → Good w0 n ds Γ a w →
    wpHeadT P md ops w0 n m L f listed Γ → wpAny P md ops Q (f + g) listed a w
  | 0, _, _, _, _, _, hg, h => by rw [Nat.zero_add]; exact hL _ _ _ _ hg h
  | f + 1, _, _, _, _, hst, hg, h => by
    rw [show f + 1 + g = (f + g) + 1 by omega]
    exact ⟨fun h0 => absurd h0 h.1, fun i hi => wpOp_of_tOp hdst hst hg (fun Γ' a' w' hst' hg' hk => wpAny_of_headT hdst hL f _ Γ' a' w' hst' hg' hk) (h.2 i hi).2⟩
/-- THE REGION: the first m in the words of XFlow, the rest walked. -/
theorem wp_region_flow_tail {id : Nat} {Q : Exit → Act → World → Prop} {a : Act} {w : World} {l : List Oper} (m : Nat) (hm : P.follows .mixedOrders = true) (hB : Region.lexTailB .any l.toArray m = true) (hn : dstB l a.tmps.size = true)
    (h : flow P l.toArray w a.tmps.size (fun Γ => ∀ (f : Nat → Value) (w' : World), Below w.heap.size w w' → (∀ t, Γ t (f t) w') → wpList P l.toArray Q (l.drop m) (frameOf f a.tmps.size a.defers) w') (l.take m) (frameW a)) :
    (Code.region id l.toArray true).wp P Q a w := by
  simp only [Region.lexTailB, Bool.and_eq_true, decide_eq_true_eq] at hB
  obtain ⟨⟨⟨⟨hsel, hnn⟩, hs⟩, hc⟩, hlex⟩ := hB
  have hn' : m < l.length := by simpa using hnn
  have htl : (l.take m).length = m := by simp; omega
  have hdl : (l.drop m).length = l.toArray.size - m := by simp
  have inv0 : HeadInv .any l.toArray m (Array.replicate l.toArray.size false) :=
    ⟨by simp, fun j oj _ hl => (by rw [getD_replicate_false] at hl; cases hl), fun t _ ht => getD_in (by simpa using ht) (getD_replicate_false _ _)⟩
  have H := wpHeadT_lex (md := .any) (g := l.toArray.size - m) hs hc hnn (l.take m) 0 _ (frameW a) (fun j hj => by
    have hj' : j < m := by rw [htl] at hj; exact hj
    simp [hj']) (by simpa using htl) inv0 (by rw [htl]; exact hlex) h
  refine wp_region_any hm ?_
  have := wpAny_of_headT (w0 := w) (n := a.tmps.size) (ds := a.defers) (Q := Q) (g := l.toArray.size - m) (by simpa using dstB_spec hn) (fun listed Γ a' w' hg hL => by
    have e := frameOf_eval a'
    rw [hg.size, hg.defers] at e
    have h9 := wpAny_of_seq (P := P) (ops := l.toArray) (md := .any) (Q' := Q) (l.drop m) m listed a' w' (fun j => by simp [List.getElem?_drop]) (by rw [hdl]; exact hL.1) (by
      rw [e]
      exact hL.2 _ w' hg.later hg.word)
    rwa [hdl] at h9) _ _ (frameW a) a { w with drawn := w.drawn + 1 } (frameW_steady a) ⟨rfl, rfl, (Below.refl _ _).drew, fun _ => rfl⟩ H
  rw [htl, show m + (l.toArray.size - m) = l.toArray.size by omega] at this
  exact this
end
end Go.Proofs.YtjmkecaljkcoiaaDoor
namespace Go.Proofs.YtjmkecaljkcoiaaDoor
open Go.RowKit

/-- The slots D lead to different blocks, each of them there. -/
structure Sep (D : List Tmp) (a : Act) (w : World) : Prop where
  low : ∀ s ∈ D, ∀ p, a.eval (.tmp s) = .pointer (some p) → p.block < w.heap.size
  ne : ∀ s ∈ D, ∀ t ∈ D, s ≠ t → ∀ p q, a.eval (.tmp s) = .pointer (some p) → a.eval (.tmp t) = .pointer (some q) → p.block ≠ q.block
theorem eval_put_other (a : Act) (d : Option Tmp) (v : Value) (t : Tmp) (h : d ≠ some t) : (a.put d v).eval (.tmp t) = a.eval (.tmp t) :=
  Act.eval_put (fun e he hx => h (by injection hx with hx; rw [he, hx]))
theorem eval_put_same (a : Act) (d : Tmp) (v : Value) (h : d < a.tmps.size) : (a.put (some d) v).eval (.tmp d) = v := by
  simp [Act.eval, Act.put, h]
theorem Sep.other {D : List Tmp} {a : Act} {w w' : World} {d : Option Tmp} {v : Value} (h : Sep D a w) (hd : ∀ t ∈ D, d ≠ some t) (hw : w.heap.size ≤ w'.heap.size) : Sep D (a.put d v) w' := by
  refine ⟨fun s hs p hp => ?_, fun s hs t ht hst p q hp hq => ?_⟩
  · rw [eval_put_other a d v s (hd s hs)] at hp
    exact Nat.lt_of_lt_of_le (h.low s hs p hp) hw
  · rw [eval_put_other a d v s (hd s hs)] at hp
    rw [eval_put_other a d v t (hd t ht)] at hq
    exact h.ne s hs t ht hst p q hp hq
theorem Sep.new {D : List Tmp} {a : Act} {w : World} {d : Tmp} (h : Sep D a w) (hd : d < a.tmps.size) (ob : Obj) : Sep D (a.put (some d) (.pointer (some ⟨w.heap.size, 0, none⟩))) (w.alloc ob) := by
  have hz : (w.alloc ob).heap.size = w.heap.size + 1 := by simp
  refine ⟨fun s hs p hp => ?_, fun s hs t ht hst p q hp hq => ?_⟩
  · by_cases hsd : s = d
    · subst hsd
      rw [eval_put_same a s _ hd] at hp
      injection hp with hp; injection hp with hp
      subst hp
      simp
    · rw [eval_put_other a _ _ s (fun e => hsd (Option.some.inj e).symm)] at hp
      have := h.low s hs p hp
      omega
  · by_cases hsd : s = d
    · subst hsd
      rw [eval_put_same a s _ hd] at hp
      rw [eval_put_other a _ _ t (fun e => hst (Option.some.inj e))] at hq
      have := h.low t ht q hq
      injection hp with hp; injection hp with hp
      subst hp
      simp only
      omega
    · rw [eval_put_other a _ _ s (fun e => hsd (Option.some.inj e).symm)] at hp
      by_cases htd : t = d
      · subst htd
        rw [eval_put_same a t _ hd] at hq
        have := h.low s hs p hp
        injection hq with hq; injection hq with hq
        subst hq
        simp only
        omega
      · rw [eval_put_other a _ _ t (fun e => htd (Option.some.inj e).symm)] at hq
        exact h.ne s hs t ht hst p q hp hq

section
variable {P : Program} {ops : Array Oper} {md : Region.Mode} {w0 : World} {n : Nat} {Γ : Tmp → Word} {D : List Tmp}
/-- Operations that make a variable. -/
def Makers (P : Program) (ops : Array Oper) (D : List Tmp) : Prop :=
  ∀ o ∈ ops, ∀ d ∈ D, o.dst = some d → o.guard = none ∧ ∃ ob, ∀ (ρ : Operand → Value) (w : World), (execOp ρ o).run P w = .ok (.value (.pointer (some ⟨w.heap.size, 0, none⟩))) (w.alloc ob)
theorem wpOp_of_tOp2 {Q : Exit → Act → World → Prop} {i : Nat} {K : (Tmp → Word) → Prop} {K' : Act → World → Prop} {ds : List Deferred} {a : Act} {w : World} (hdst : ∀ o ∈ ops, ∀ t, o.dst = some t → t < n) (hmk : Makers P ops D)
    (hst : ∀ t, Steady (Γ t)) (h : Good w0 n ds Γ a w) (hs2 : Sep D a w) (hK : ∀ Γ' a' w', (∀ t, Steady (Γ' t)) → Good w0 n ds Γ' a' w' → Sep D a' w' → K Γ' → K' a' w') (hh : tOp P ops w0 n i K Γ) : wpOp P ops Q i K' a w := by
  unfold tOp at hh
  unfold wpOp
  cases ho : ops[i]? with
  | none => rw [ho] at hh; exact hK _ _ _ hst h hs2 hh
  | some o =>
    rw [ho] at hh
    obtain ⟨g, hs, hy, hk⟩ := hh
    have hmem : o ∈ ops := Array.mem_of_getElem? ho
    have hd : ∀ t, o.dst = some t → t < n := hdst o hmem
    have hst' : ∀ t, Steady (tput Γ o.dst g t) := fun t => by
      cases hdo : o.dst with
      | none => exact hst t
      | some d =>
        by_cases ht : t = d
        · subst ht; rw [tput_same]; exact hs
        · rw [tput_other _ _ _ _ (fun e => ht (Option.some.inj e).symm)]; exact hst t
    have hsp := hy a w h.size h.later (fun t _ => h.word t)
    by_cases hD : ∃ d ∈ D, o.dst = some d
    · obtain ⟨d, hdD, hdd⟩ := hD
      obtain ⟨hgd, ob, hrun⟩ := hmk o hmem d hdD hdd
      have hw : Region.wanted o (yielded ops a.tmps) = true := wanted_plain hgd _
      simp only [hw, if_true] at hsp ⊢
      refine .inl ?_
      unfold Oper.wp
      rw [hrun a.eval w] at hsp ⊢
      simp only [flowUpon] at hsp
      simp only [Oper.upon]
      refine hK _ _ _ hst' (h.put hst hsp.1 hd hsp.2) ?_ hk
      rw [hdd]
      exact hs2.new (by rw [h.size]; exact hd d hdd) ob
    · have hno : ∀ t ∈ D, o.dst ≠ some t := fun t ht e => hD ⟨t, ht, e⟩
      by_cases hw : Region.wanted o (yielded ops a.tmps) = true
      · simp only [hw, if_true] at hsp ⊢
        refine .inl ?_
        unfold Oper.wp
        generalize (execOp a.eval o).run P w = r at *
        cases r with
        | ok nx w' =>
          cases nx <;> simp only [flowUpon] at hsp <;> simp only [Oper.upon]
          case value u => exact hK _ _ _ hst' (h.put hst hsp.1 hd hsp.2) (hs2.other hno hsp.1.size) hk
          case skip => exact hK _ _ _ hst' (h.put hst hsp.1 hd hsp.2) (hs2.other hno hsp.1.size) hk
          case enter f args =>
            refine hsp.2.mono fun e w'' ⟨v, he, hb, hg⟩ => ?_
            subst he
            exact hK _ _ _ hst' (h.put hst hb hd hg) (hs2.other hno hb.size) hk
        | halt x w' => simp only [flowUpon] at hsp
      · simp only [hw] at hsp ⊢
        exact hK _ _ _ hst' (h.put hst (Below.refl _ _) hd hsp) (hs2.other hno (Nat.le_refl _)) hk
theorem wpAny_of_headT2 {m g : Nat} {L : Array Bool → (Tmp → Word) → Prop} {Q : Exit → Act → World → Prop} {ds : List Deferred} (hdst : ∀ o ∈ ops, ∀ t, o.dst = some t → t < n) (hmk : Makers P ops D)
    (hL : ∀ listed Γ a w, Good w0 n ds Γ a w → Sep D a w → L listed Γ → wpAny P md ops Q g listed a w) : ∀ (f : Nat) (listed : Array Bool) (Γ : Tmp → Word) (a : Act) (w : World), (∀ t, Steady (Γ t)) → Good w0 n ds Γ a w → Sep D a w →
    wpHeadT P md ops w0 n m L f listed Γ → wpAny P md ops Q (f + g) listed a w
  | 0, _, _, _, _, _, hg, hs2, h => by rw [Nat.zero_add]; exact hL _ _ _ _ hg hs2 h
  | f + 1, _, _, _, _, hst, hg, hs2, h => by
    rw [show f + 1 + g = (f + g) + 1 by omega]
    exact ⟨fun h0 => absurd h0 h.1, fun i hi => wpOp_of_tOp2 hdst hmk hst hg hs2 (fun Γ' a' w' hst' hg' hs' hk => wpAny_of_headT2 hdst hmk hL f _ Γ' a' w' hst' hg' hs' hk) (h.2 i hi).2⟩
/-- THE REGION: the first m in the words of XFlow, the rest walked; the slots D, which it makes, lie apart. -/
theorem wp_region_flow_apart {id : Nat} {Q : Exit → Act → World → Prop} {a : Act} {w : World} {l : List Oper} (m : Nat) (D : List Tmp) (hm : P.follows .mixedOrders = true) (hB : Region.lexTailB .any l.toArray m = true) (hn : dstB l a.tmps.size = true)
    (hmk : Makers P l.toArray D) (h0 : Sep D a w)
    (h : flow P l.toArray w a.tmps.size (fun Γ => ∀ (f : Nat → Value) (w' : World), Below w.heap.size w w' → (∀ t, Γ t (f t) w') → (∀ s ∈ D, ∀ t ∈ D, s ≠ t → ∀ p q, f s = .pointer (some p) → f t = .pointer (some q) → p.block ≠ q.block) →
      wpList P l.toArray Q (l.drop m) (frameOf f a.tmps.size a.defers) w') (l.take m) (frameW a)) :
    (Code.region id l.toArray true).wp P Q a w := by
  simp only [Region.lexTailB, Bool.and_eq_true, decide_eq_true_eq] at hB
  obtain ⟨⟨⟨⟨hsel, hnn⟩, hs⟩, hc⟩, hlex⟩ := hB
  have hn' : m < l.length := by simpa using hnn
  have htl : (l.take m).length = m := by simp; omega
  have hdl : (l.drop m).length = l.toArray.size - m := by simp
  have inv0 : HeadInv .any l.toArray m (Array.replicate l.toArray.size false) :=
    ⟨by simp, fun j oj _ hl => (by rw [getD_replicate_false] at hl; cases hl), fun t _ ht => getD_in (by simpa using ht) (getD_replicate_false _ _)⟩
  have H := wpHeadT_lex (md := .any) (g := l.toArray.size - m) hs hc hnn (l.take m) 0 _ (frameW a) (fun j hj => by
    have hj' : j < m := by rw [htl] at hj; exact hj
    simp [hj']) (by simpa using htl) inv0 (by rw [htl]; exact hlex) h
  refine wp_region_any hm ?_
  have := wpAny_of_headT2 (w0 := w) (n := a.tmps.size) (ds := a.defers) (Q := Q) (D := D) (g := l.toArray.size - m) (by simpa using dstB_spec hn) hmk (fun listed Γ a' w' hg hsp hL => by
    have e := frameOf_eval a'
    rw [hg.size, hg.defers] at e
    have h9 := wpAny_of_seq (P := P) (ops := l.toArray) (md := .any) (Q' := Q) (l.drop m) m listed a' w' (fun j => by simp [List.getElem?_drop]) (by rw [hdl]; exact hL.1) (by
      rw [e]
      exact hL.2 _ w' hg.later hg.word hsp.ne)
    rwa [hdl] at h9) _ _ (frameW a) a { w with drawn := w.drawn + 1 } (frameW_steady a) ⟨rfl, rfl, (Below.refl _ _).drew, fun _ => rfl⟩ ⟨h0.low, h0.ne⟩ H
  rw [htl, show m + (l.toArray.size - m) = l.toArray.size by omega] at this
  exact this
/-- A variable is made. -/
theorem run_alloc_op {T : TypeId} {z : Value} (hz : ∀ w, (zeroValue T).run P w = .ok z w) {o : Oper} (ho : o.op = .alloc T) (ρ : Operand → Value) (w : World) :
    (execOp ρ o).run P w = .ok (.value (.pointer (some ⟨w.heap.size, 0, none⟩))) (w.alloc (.cells z.cells T)) := by
  unfold execOp
  simp only [ho, Instr.alloc, Sem.run_bind, hz, Result.andThen_ok, Sem.run_pure, newVar, newRow]
  rfl
def makersB (l : List Oper) (D : List Tmp) (T : TypeId) : Bool :=
  l.all fun o => match o.dst with
    | some d => !(D.contains d) || (o.guard.isNone && (match o.op with | .alloc t => t == T | _ => false))
    | none => true
theorem makers_of {l : List Oper} {T : TypeId} {z : Value} (hz : ∀ w, (zeroValue T).run P w = .ok z w) (hB : makersB l D T = true) : Makers P l.toArray D := by
  intro o ho d hd hdd
  have h := List.all_eq_true.1 hB o (by simpa using ho)
  rw [hdd] at h
  have hc : D.contains d = true := by simpa using hd
  simp only [hc, Bool.not_true, Bool.false_or, Bool.and_eq_true, Option.isNone_iff_eq_none] at h
  refine ⟨h.1, .cells z.cells T, fun ρ w => ?_⟩
  have h2 := h.2
  cases hop : o.op <;> rw [hop] at h2 <;> simp only [Bool.false_eq_true] at h2
  rename_i t
  obtain rfl : t = T := by simpa using h2
  exact run_alloc_op hz hop ρ w
/-- A variable of the region's own. -/
def NewW (T : TypeId) (cs : Array Value) (B : Nat) : Word := fun v w => ∃ g, v = .pointer (some ⟨g, 0, none⟩) ∧ B ≤ g ∧ w.heap[g]? = some (.cells cs T (0, 0))
theorem newW_steady (T : TypeId) (cs : Array Value) (B : Nat) : Steady (NewW T cs B) := by
  rintro v w w' ⟨g, e, hg, h⟩ hb
  exact ⟨g, e, hg, (hb.block g (Array.getElem?_eq_some_iff.1 h).1).trans h⟩
variable {E : (Tmp → Word) → Prop} {o : Oper} {l : List Oper}
theorem flow_alloc {T : TypeId} {z : Value} (hz : ∀ w, (zeroValue T).run P w = .ok z w) (hg : o.guard = none) (ho : o.op = .alloc T)
    (next : flow P ops w0 n E l (tput Γ o.dst (NewW T z.cells w0.heap.size))) : flow P ops w0 n E (o :: l) Γ := by
  refine flow_step (NewW T z.cells w0.heap.size) hg (newW_steady _ _ _) (fun ρ w hr hw hf => ?_) next
  rw [run_alloc_op hz ho ρ w]
  exact ⟨(Below.refl _ _).alloc (Nat.le_refl _) _, w.heap.size, rfl, hw.size, heap_alloc_new w _⟩
/-- A whole variable that was there is read. -/
theorem flow_row {T T' : TypeId} {t g : Nat} {cs : Array Value} {fr : Nat × Nat} (d : TypeDesc) (hg : o.guard = none) (ho : o.op = .load T (.tmp t)) (hx : ∀ v w, Γ t v w → v = .pointer (some ⟨g, 0, none⟩))
    (hrow : w0.heap[g]? = some (.cells cs T' fr)) (hu : P.underlying T = some d) (hd : (match d with | .struct _ | .array _ _ => true | _ => false) = true) (hi : (P.info? T).map (·.size) = some cs.size)
    (next : flow P ops w0 n E l (tput Γ o.dst (fun v _ => v = .agg cs))) : flow P ops w0 n E (o :: l) Γ := by
  refine flow_pure (.agg cs) hg (fun ρ w hr hw hf => ?_) next
  have hin : t ∈ o.looksAt ops := by unfold Oper.looksAt; rw [ho]; simp [Op.operands]
  have hv := hx _ _ (hf t hin)
  have hr2 : w.heap[g]? = some (.cells cs T' fr) := (hw.block g (Array.getElem?_eq_some_iff.1 hrow).1).trans hrow
  unfold execOp
  simp only [ho, hv, Instr.loadAt, Instr.sureAddr, Sem.run_bind, Sem.run_pure, Result.andThen_ok, run_loadVar_row w g T' T cs fr d hr2 hu hd hi]
end
end Go.Proofs.YtjmkecaljkcoiaaDoor
