import Derived.BigQuiet
import Derived.Test.YtjmkecaljkcoiaaGreatDoorQOpenF
namespace Go.Proofs.YtjmkecaljkcoiaaGreatDoor
open Go.RowKit
abbrev Word := Value → World → Prop
def Steady (g : Word) : Prop := ∀ v w w', g v w → Below w.heap.size w w' → g v w'
def tput (Γ : Tmp → Word) : Option Tmp → Word → Tmp → Word
  | none, _ => Γ
  | some d, g => fun t => if t = d then g else Γ t
theorem tput_same (Γ : Tmp → Word) (d : Tmp) (g : Word) : tput Γ (some d) g d = g := if_pos rfl
theorem tput_other (Γ : Tmp → Word) (d : Option Tmp) (g : Word) (t : Tmp) (h : d ≠ some t) : tput Γ d g t = Γ t := by
  cases d with
  | none => rfl
  | some d => exact if_neg (fun e => h (by rw [e]))
theorem tput_comm (Γ : Tmp → Word) (d e : Option Tmp) (g h : Word) (hde : ∀ t, d = some t → e ≠ some t) : tput (tput Γ d g) e h = tput (tput Γ e h) d g := by
  cases d with
  | none => rfl
  | some d =>
    cases e with
    | none => rfl
    | some e =>
      have hne : e ≠ d := fun x => hde d rfl (by rw [x])
      funext t
      by_cases h1 : t = e
      · subst h1; simp [tput, hne]
      · by_cases h2 : t = d
        · subst h2; simp [tput, Ne.symm hne]
        · simp [tput, h1, h2]
def flowUpon (P : Program) (w : World) (g : Word) : Result Next → Prop
  | .ok (.value u) w' => Below w.heap.size w w' ∧ g u w'
  | .ok .skip w' => Below w.heap.size w w' ∧ g undef w'
  | .ok (.enter f args) w' => Below w.heap.size w w' ∧ Calls P f args w' (fun e w'' => ∃ v, e = .returned v ∧ Below w.heap.size w w'' ∧ g v w'')
  | _ => False
section
variable {P : Program} {ops : Array Oper} {md : Region.Mode} {w0 : World} {n : Nat} {Γ : Tmp → Word}
def Spec (P : Program) (ops : Array Oper) (w0 : World) (n : Nat) (Γ : Tmp → Word) (o : Oper) (g : Word) : Prop :=
  ∀ (a : Act) (w : World), a.tmps.size = n → Below w0.heap.size w0 w → (∀ t ∈ o.looksAt ops, Γ t (a.eval (.tmp t)) w) →
    if Region.wanted o (yielded ops a.tmps) = true then flowUpon P w g ((execOp a.eval o).run P w) else g undef w
theorem Spec.put {o oi : Oper} {g gi : Word} (h : Spec P ops w0 n Γ o g) (hd : ∀ d, oi.dst = some d → d ∉ o.looksAt ops) : Spec P ops w0 n (tput Γ oi.dst gi) o g :=
  fun a w ha hw hf => h a w ha hw fun t ht => by
    have := hf t ht
    rwa [tput_other _ _ _ _ (fun e => hd t e ht)] at this
theorem Spec.unput {o oi : Oper} {g gi : Word} (h : Spec P ops w0 n (tput Γ oi.dst gi) o g) (hd : ∀ d, oi.dst = some d → d ∉ o.looksAt ops) : Spec P ops w0 n Γ o g :=
  fun a w ha hw hf => h a w ha hw fun t ht => by
    rw [tput_other _ _ _ _ (fun e => hd t e ht)]
    exact hf t ht
def tOp (P : Program) (ops : Array Oper) (w0 : World) (n : Nat) (i : Nat) (K : (Tmp → Word) → Prop) (Γ : Tmp → Word) : Prop :=
  match ops[i]? with
  | none => K Γ
  | some o => ∃ g, Steady g ∧ Spec P ops w0 n Γ o g ∧ K (tput Γ o.dst g)
def wpAnyT (P : Program) (md : Region.Mode) (ops : Array Oper) (w0 : World) (n : Nat) (E : (Tmp → Word) → Prop) : Nat → Array Bool → (Tmp → Word) → Prop
  | 0, listed, Γ => Region.ready md ops listed = [] ∧ E Γ
  | fuel + 1, listed, Γ => (Region.ready md ops listed = [] → E Γ) ∧ ∀ i ∈ Region.ready md ops listed, tOp P ops w0 n i (wpAnyT P md ops w0 n E fuel (listed.setIfInBounds i true)) Γ
def flow (P : Program) (ops : Array Oper) (w0 : World) (n : Nat) (E : (Tmp → Word) → Prop) : List Oper → (Tmp → Word) → Prop
  | [], Γ => E Γ
  | o :: l, Γ => ∃ g, Steady g ∧ Spec P ops w0 n Γ o g ∧ flow P ops w0 n E l (tput Γ o.dst g)
theorem wpAnyT_first {E : (Tmp → Word) → Prop} {i : Nat} {oi : Oper} {g : Word} (hi : ops[i]? = some oi) (hs : Steady g) :
    ∀ (fuel : Nat) (listed : Array Bool) (Γ : Tmp → Word),
      (∀ j oj, ops[j]? = some oj → j ≠ i → listed.getD j true = false → (∀ e ∈ oj.after, Region.binds md e = true → e.on ≠ i) → oi.apart ops oj = true) →
      i ∈ Region.ready md ops listed → Spec P ops w0 n Γ oi g → wpAnyT P md ops w0 n E fuel (listed.setIfInBounds i true) (tput Γ oi.dst g) → wpAnyT P md ops w0 n E (fuel + 1) listed Γ
  | 0, listed, Γ, _, hr, hy, H => by
    refine ⟨fun h => (by rw [h] at hr; cases hr), fun j hj => ?_⟩
    by_cases hji : j = i
    · subst hji
      unfold tOp; rw [hi]; exact ⟨g, hs, hy, H⟩
    · have h2 := ready_mono hj hji
      rw [H.1] at h2
      cases h2
  | fuel + 1, listed, Γ, hfree, hr, hy, H => by
    refine ⟨fun h => (by rw [h] at hr; cases hr), fun j hj => ?_⟩
    by_cases hji : j = i
    · subst hji
      unfold tOp; rw [hi]; exact ⟨g, hs, hy, H⟩
    · obtain ⟨hun, oj, hoj, hall⟩ := mem_ready.1 hj
      have hno : ∀ e ∈ oj.after, Region.binds md e = true → e.on ≠ i := fun e he hb heq => by
        have h1 := hall e he hb
        have h0 := (mem_ready.1 hr).1
        rw [heq] at h1
        rcases Nat.lt_or_ge i listed.size with h' | h'
        · simp [h'] at h0 h1; rw [h0] at h1; cases h1
        · simp [Array.getElem?_eq_none h'] at h1
      obtain ⟨p1, p2, p3⟩ := Oper.apart_spec (hfree j oj hoj hji hun hno)
      have hstep := H.2 j (ready_mono hj hji)
      unfold tOp at hstep ⊢
      rw [hoj] at hstep ⊢
      obtain ⟨gj, hsj, hyj, hK⟩ := hstep
      refine ⟨gj, hsj, hyj.unput p1, ?_⟩
      refine wpAnyT_first hi hs fuel _ _ (fun k ok hk hki hunk hnk => hfree k ok hk hki ?_ hnk) (ready_mono hr (Ne.symm hji)) (hy.put p3) ?_
      · by_cases hjk : j = k
        · subst hjk; exact hun
        · rw [getD_set_ne true hjk] at hunk; exact hunk
      · rw [Array.setIfInBounds_comm _ _ hji, ← tput_comm Γ _ _ _ _ p2]
        exact hK
theorem wpAnyT_lex {E : (Tmp → Word) → Prop} : ∀ (l : List Oper) (k : Nat) (listed : Array Bool) (Γ : Tmp → Word), (∀ j, l[j]? = ops[k + j]?) →
    Region.lexFrom md ops l.length k listed = true → flow P ops w0 n E l Γ → wpAnyT P md ops w0 n E l.length listed Γ
  | [], _, _, _, _, hB, h => ⟨by simpa [Region.lexFrom] using hB, h⟩
  | o :: l, k, listed, Γ, hl, hB, h => by
    have h0 : ops[k]? = some o := by simpa using (hl 0).symm
    simp only [List.length_cons, Region.lexFrom, Bool.and_eq_true] at hB
    obtain ⟨⟨hr, hf⟩, hB'⟩ := hB
    obtain ⟨g, hs, hy, hK⟩ := h
    exact wpAnyT_first h0 hs l.length listed Γ (Region.free_spec h0 hf) (by simpa using hr) hy
      (wpAnyT_lex l (k + 1) _ _ (fun j => by have := hl (j + 1); simpa [Nat.add_assoc, Nat.add_comm 1 j] using this) hB' hK)
structure Good (w0 : World) (n : Nat) (ds : List Deferred) (Γ : Tmp → Word) (a : Act) (w : World) : Prop where
  size : a.tmps.size = n
  defers : a.defers = ds
  later : Below w0.heap.size w0 w
  word : ∀ t, Γ t (a.eval (.tmp t)) w
theorem Good.put {ds : List Deferred} {a : Act} {w w' : World} {d : Option Tmp} {g : Word} {v : Value} (h : Good w0 n ds Γ a w) (hst : ∀ t, Steady (Γ t)) (hb : Below w.heap.size w w') (hd : ∀ t, d = some t → t < n) (hg : g v w') :
    Good w0 n ds (tput Γ d g) (a.put d v) w' := by
  have hbz : Below w0.heap.size w0 w' := h.later.trans (hb.mono h.later.size)
  cases d with
  | none => exact ⟨h.size, h.defers, hbz, fun t => hst t _ _ _ (h.word t) hb⟩
  | some d =>
    refine ⟨by simpa [Act.put] using h.size, h.defers, hbz, fun t => ?_⟩
    by_cases ht : t = d
    · subst ht
      rw [tput_same]
      have hlt : t < a.tmps.size := by rw [h.size]; exact hd t rfl
      simpa [Act.eval, Act.put, hlt] using hg
    · rw [tput_other _ _ _ _ (fun e => ht (Option.some.inj e).symm)]
      have := hst t _ _ _ (h.word t) hb
      rwa [Act.eval_put (fun e he hx => ht (by injection hx with hx; rw [hx]; exact (Option.some.inj he).symm ▸ rfl))]
theorem wpOp_of_tOp {Q : Exit → Act → World → Prop} {i : Nat} {K : (Tmp → Word) → Prop} {K' : Act → World → Prop} {ds : List Deferred} {a : Act} {w : World} (hdst : ∀ o ∈ ops, ∀ t, o.dst = some t → t < n)
    (hst : ∀ t, Steady (Γ t)) (h : Good w0 n ds Γ a w) (hK : ∀ Γ' a' w', (∀ t, Steady (Γ' t)) → Good w0 n ds Γ' a' w' → K Γ' → K' a' w') (hh : tOp P ops w0 n i K Γ) : wpOp P ops Q i K' a w := by
  unfold tOp at hh
  unfold wpOp
  cases ho : ops[i]? with
  | none => rw [ho] at hh; exact hK _ _ _ hst h hh
  | some o =>
    rw [ho] at hh
    obtain ⟨g, hs, hy, hk⟩ := hh
    have hd : ∀ t, o.dst = some t → t < n := hdst o (Array.mem_of_getElem? ho)
    have hst' : ∀ t, Steady (tput Γ o.dst g t) := fun t => by
      cases hdo : o.dst with
      | none => exact hst t
      | some d =>
        by_cases ht : t = d
        · subst ht; rw [tput_same]; exact hs
        · rw [tput_other _ _ _ _ (fun e => ht (Option.some.inj e).symm)]; exact hst t
    have hsp := hy a w h.size h.later (fun t _ => h.word t)
    by_cases hw : Region.wanted o (yielded ops a.tmps) = true
    · simp only [hw, if_true] at hsp ⊢
      refine .inl ?_
      unfold Oper.wp
      generalize (execOp a.eval o).run P w = r at *
      cases r with
      | ok nx w' =>
        cases nx <;> simp only [flowUpon] at hsp <;> simp only [Oper.upon]
        case value u => exact hK _ _ _ hst' (h.put hst hsp.1 hd hsp.2) hk
        case skip => exact hK _ _ _ hst' (h.put hst hsp.1 hd hsp.2) hk
        case enter f args =>
          refine hsp.2.mono fun e w'' ⟨v, he, hb, hg⟩ => ?_
          subst he
          exact hK _ _ _ hst' (h.put hst hb hd hg) hk
      | halt x w' => simp only [flowUpon] at hsp
    · simp only [hw] at hsp ⊢
      exact hK _ _ _ hst' (h.put hst (Below.refl _ _) hd hsp) hk
theorem wpAny_of_flow {Q : Exit → Act → World → Prop} {E : (Tmp → Word) → Prop} {ds : List Deferred} (hdst : ∀ o ∈ ops, ∀ t, o.dst = some t → t < n)
    (hE : ∀ Γ a w, Good w0 n ds Γ a w → E Γ → Q .normal a w) : ∀ (fuel : Nat) (listed : Array Bool) (Γ : Tmp → Word) (a : Act) (w : World), (∀ t, Steady (Γ t)) → Good w0 n ds Γ a w →
    wpAnyT P md ops w0 n E fuel listed Γ → wpAny P md ops Q fuel listed a w
  | 0, _, _, _, _, _, hg, h => ⟨h.1, hE _ _ _ hg h.2⟩
  | fuel + 1, _, _, _, _, hst, hg, h => ⟨fun h0 => hE _ _ _ hg (h.1 h0), fun i hi => wpOp_of_tOp hdst hst hg (fun Γ' a' w' hst' hg' hk => wpAny_of_flow hdst hE fuel _ Γ' a' w' hst' hg' hk) (h.2 i hi)⟩
def frameW (a : Act) : Tmp → Word := fun t v _ => v = a.eval (.tmp t)
theorem frameW_steady (a : Act) (t : Tmp) : Steady (frameW a t) := fun _ _ _ h _ => h
def dstB (ops : List Oper) (n : Nat) : Bool := ops.all fun o => match o.dst with | some t => decide (t < n) | none => true
theorem dstB_spec {l : List Oper} (h : dstB l n = true) : ∀ o ∈ l, ∀ t, o.dst = some t → t < n := by
  intro o ho t ht
  have := List.all_eq_true.1 h o ho
  rw [ht] at this
  simpa using this
def frameOf (f : Nat → Value) (n : Nat) (ds : List Deferred) : Act := ⟨((List.range n).map f).toArray, ds⟩
theorem frameOf_eval (a : Act) : a = frameOf (fun t => a.eval (.tmp t)) a.tmps.size a.defers := by
  obtain ⟨tmps, ds⟩ := a
  unfold frameOf
  congr 1
  apply Array.ext
  · simp
  · intro i h1 h2
    simp [Act.eval, h1]
theorem wp_region_flow {id : Nat} {Q : Exit → Act → World → Prop} {a : Act} {w : World} {l : List Oper} (hm : P.follows .mixedOrders = true) (hB : Region.lexB .any l.toArray = true) (hn : dstB l a.tmps.size = true)
    (h : flow P l.toArray w a.tmps.size (fun Γ => ∀ (f : Nat → Value) (w' : World), Below w.heap.size w w' → (∀ t, Γ t (f t) w') → Q .normal (frameOf f a.tmps.size a.defers) w') l (frameW a)) :
    (Code.region id l.toArray true).wp P Q a w := by
  have hB' := hB
  simp only [Region.lexB, Bool.and_eq_true] at hB'
  refine wp_region_any hm (wpAny_of_flow (w0 := w) (n := a.tmps.size) (ds := a.defers) (ops := l.toArray) (E := fun Γ => ∀ (f : Nat → Value) (w' : World), Below w.heap.size w w' → (∀ t, Γ t (f t) w') → Q .normal (frameOf f a.tmps.size a.defers) w') (by simpa using dstB_spec hn) (fun Γ a' w' hg hE => ?_) _ _ (frameW a) _ _ (frameW_steady a)
    ⟨rfl, rfl, (Below.refl _ _).drew, fun _ => rfl⟩ ?_)
  · have e := frameOf_eval a'
    rw [hg.size, hg.defers] at e
    rw [e]
    exact hE _ w' hg.later hg.word
  · have := wpAnyT_lex (P := P) (md := .any) (w0 := w) (n := a.tmps.size) l 0 (Array.replicate l.length false) (frameW a) (by simp) (by simpa using hB'.2) h
    simpa using this
structure Reads (ρ : Operand → Value) : Prop where
  const : ∀ v, ρ (.const v) = v
  global : ∀ g, ρ (.global g) = .pointer (some ⟨g, 0, none⟩)
  func : ∀ f, ρ (.func f) = .func (.func f) #[] #[]
theorem wanted_plain {o : Oper} (h : o.guard = none) (y : Nat → Option Bool) : Region.wanted o y = true := by simp [Region.wanted, h]
variable {E : (Tmp → Word) → Prop} {o : Oper} {l : List Oper}
theorem flow_step (g : Word) (hg : o.guard = none) (hs : Steady g) (h : ∀ (ρ : Operand → Value) (w : World), Reads ρ → Below w0.heap.size w0 w → (∀ t ∈ o.looksAt ops, Γ t (ρ (.tmp t)) w) → flowUpon P w g ((execOp ρ o).run P w))
    (next : flow P ops w0 n E l (tput Γ o.dst g)) : flow P ops w0 n E (o :: l) Γ :=
  ⟨g, hs, fun a w _ hw hf => by rw [if_pos (wanted_plain hg _)]; exact h a.eval w ⟨fun _ => rfl, fun _ => rfl, fun _ => rfl⟩ hw hf, next⟩
theorem flow_pure (c : Value) (hg : o.guard = none) (h : ∀ (ρ : Operand → Value) (w : World), Reads ρ → Below w0.heap.size w0 w → (∀ t ∈ o.looksAt ops, Γ t (ρ (.tmp t)) w) → (execOp ρ o).run P w = .ok (.value c) w)
    (next : flow P ops w0 n E l (tput Γ o.dst fun v _ => v = c)) : flow P ops w0 n E (o :: l) Γ :=
  flow_step _ hg (fun _ _ _ h _ => h) (fun ρ w hr hw hf => by rw [h ρ w hr hw hf]; exact ⟨Below.refl _ _, rfl⟩) next
theorem flow_val (hg : o.guard = none) (h : ∃ c, (∀ (ρ : Operand → Value) (w : World), Reads ρ → (∀ t ∈ o.looksAt ops, Γ t (ρ (.tmp t)) w) → (execOp ρ o).run P w = .ok (.value c) w) ∧ flow P ops w0 n E l (tput Γ o.dst fun v _ => v = c)) :
    flow P ops w0 n E (o :: l) Γ := by
  obtain ⟨c, h, next⟩ := h
  exact flow_pure c hg (fun ρ w hr _ hf => h ρ w hr hf) next
theorem flow_nil (h : E Γ) : flow P ops w0 n E [] Γ := h
end
end Go.Proofs.YtjmkecaljkcoiaaGreatDoor
