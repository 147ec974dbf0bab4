/-
  A Writer's ballots, bytes, processes; what is told of it; the document's forms.
-/
import Derived.Deep.RegionHeld3
import Derived.Test.YtdmihbicpjmgjaaDoorQWr1
import Derived.Test.YtdmihbicpjmgjaaDoorQOpenT
import Derived.StillTail
import Derived.Test.YtdmihbicpjmgjaaDoorQFlow
namespace Go.Proofs.YtdmihbicpjmgjaaDoor
open Go.RowKit
set_option linter.unusedVariables false
set_option linter.unusedSimpArgs false

set_option maxRecDepth 100000 in
theorem wbytes_any (base b : Nat) (mg : Option Nat) (L : List UInt8) (A : Option Addr) (n c : Nat) (l : List UInt8) (w : World) (h : WrAt w base b mg L) (hbase : base ≤ w.heap.size) (hn : L.length ≤ 9000000) (hA : Bs w base A n l) (hm : n ≤ 9000000) :
    Calls Tryd.prog 26 #[.pointer (some ⟨b, 0, none⟩), .slice A n c] w (WroteP w base b mg (L ++ (shortL n ++ l))) := by
  have wr : IntKind.u64.wrap (n : Int) = (n : Int) := by rw [IntKind.wrap_u64]; omega
  go_enter Tryd.func26, Tryd.ntmps26
  go_wp2_with fail
  refine (wnum_any base b mg L n w h hbase (by omega) (by omega)).mono ?_
  rintro e w2 ⟨rfl, mg2, h2, ht2, hm2⟩
  have hA2 := hA.below (h.turned ht2 hbase)
  have hs2 := ht2.size
  have hl2 : (L ++ shortL n).length ≤ 10000000 := by rw [List.length_append]; have := (shortL_len n).2; omega
  go_wp2_with fail
  refine (lay_any base b mg2 _ A n c l base w2 h2 hA2 (by omega) (by omega)).mono ?_
  rintro e w3 ⟨rfl, hw⟩
  have hz := WroteP.two ht2 hm2 ⟨rfl, hw⟩
  rw [List.append_assoc] at hz
  have HW := hide hz
  clear hz hw
  go_wp2
  first | go_end0 | refine bodyPost_ret (results_none rfl _ _ _) rfl ?_
  exact HW.out
set_option maxRecDepth 100000 in
theorem wbytes_none (A : Option Addr) (n c : Nat) (w : World) (hm : n ≤ maxLen) :
    Calls Tryd.prog 26 #[.pointer none, .slice A n c] w fun e w' => e = .returned (.tuple #[]) ∧ Below w.heap.size w w' := by
  unfold maxLen at hm
  have wr : IntKind.u64.wrap (n : Int) = (n : Int) := by rw [IntKind.wrap_u64]; omega
  go_enter Tryd.func26, Tryd.ntmps26
  go_wp2_with fail
  refine (wnum_none n w (by omega)).mono ?_
  rintro e w2 ⟨rfl, hb⟩
  go_wp2_with fail
  refine (lay_none A n c w2).mono ?_
  rintro e w3 ⟨rfl, rfl⟩
  go_wp2
  first | go_end0 | refine bodyPost_ret (results_none rfl _ _ _) rfl ?_
  exact ⟨rfl, hb⟩
theorem Turn.two {w w1 w2 : World} {b : Nat} {mg mg1 mg2 : Option Nat} (h1 : Turn w w1 b mg) (m1 : Mov w mg mg1) (h2 : Turn w1 w2 b mg1) (m2 : Mov w1 mg1 mg2) : Turn w w2 b mg ∧ Mov w mg mg2 := ⟨h1.trans h2 m1, m1.trans m2 h1.size⟩
set_option maxRecDepth 100000 in
theorem wpids_any (base b : Nat) (mg : Option Nat) (L : List UInt8) (A : Option Addr) (n c : Nat) (l : List Pr) (w : World) (h : WrAt w base b mg L) (hbase : base ≤ w.heap.size) (hn : L.length ≤ 9000000) (hA : Es prC w base A n l) (hm : n ≤ 1000) :
    Calls Tryd.prog 46 #[.pointer (some ⟨b, 0, none⟩), .slice A n c] w (WroteP w base b mg (L ++ (shortL n ++ pidsL l))) := by
  have wr : IntKind.u64.wrap (n : Int) = (n : Int) := by rw [IntKind.wrap_u64]; omega
  have hlen := hA.len
  have hpl := fun j => pidsL_len (l.take j)
  have hsl := (shortL_len n).2
  have HL := hide hlen
  have HP := hide hpl
  clear hlen hpl
  go_enter Tryd.func46, Tryd.ntmps46
  go_wp2_with fail
  refine (wnum_any base b mg L n w h hbase (by omega) (by omega)).mono ?_
  rintro e w2 ⟨rfl, mg2, h2, ht2, hm2⟩
  have H0 : WrAt w2 base b mg2 (L ++ (shortL n ++ pidsL (l.take 0))) := by simpa [pidsL] using h2
  go_wp2
  go_loopw [5, 13, 16] (fun x i y wr => ∃ j : Nat, j ≤ n ∧ i = .int .i64 j ∧ ∃ mg', WrAt wr base b mg' (L ++ (shortL n ++ pidsL (l.take j))) ∧ Turn w wr b mg ∧ Mov w mg mg') (fun _ i _ _ => n - (intOf i).toNat)
  case atStart => exact ⟨0, Nat.zero_le _, rfl, mg2, H0, ht2, hm2⟩
  case round =>
    obtain ⟨j, hj, rfl, mg', h', ht', hm'⟩ := hrel
    clear h2 ht2 hm2 H0
    by_cases hlt : j < n
    · obtain ⟨ad, hl, rfl, hbl, hc⟩ := (hA.below (h.turned ht' hbase)).at_ prOk hlt
      obtain ⟨q, hq⟩ : ∃ q, q = l[j] := ⟨_, rfl⟩
      rw [← hq] at hc
      obtain ⟨c0, c1⟩ := pr_at hc
      have hstep := pidsL_take hl
      rw [← hq] at hstep
      have HS := hide hstep
      have hs' := ht'.size
      clear hc hq hstep
      have hb1 : Below wr.heap.size wr (wr.alloc (.cells #[.int .u16 (q.i : Int), .int .u32 (q.k : Int)] 25)) := (Below.refl _ _).alloc (Nat.le_refl _) _
      have hl2 : (L ++ (shortL n ++ pidsL (l.take j))).length ≤ 10000000 := by
        have h1 := HP.out j
        have h2 : (l.take j).length ≤ j := List.length_take_le _ _
        rw [List.length_append, List.length_append]
        omega
      go_wp2_with fail
      refine (wpid_any base b mg' _ q.i q.k _ (h'.later hb1) (by simp; omega) hl2 q.hi q.hk).mono ?_
      rintro e w3 ⟨rfl, mg3, h3, ht3, hm3⟩
      rw [List.append_assoc, List.append_assoc, ← HS.out] at h3
      have hm3' : Mov wr mg' mg3 := by
        rcases hm3 with rfl | ⟨g, rfl, hg⟩
        · exact .inl rfl
        · exact .inr ⟨g, rfl, Nat.le_trans hb1.size hg⟩
      obtain ⟨ht4, hm4⟩ := Turn.two ht' hm' (Turn.ahead hb1 ht3) hm3'
      clear hb1 hl2 c0 c1 h' ht' hm' ht3 hm3 hm3'
      go_wp2
      go_roundw
      case rel => exact ⟨j + 1, by omega, by go_num, mg3, h3, ht4, hm4⟩
      case measure => simp [intOf]; omega
    · have e : l.take j = l := List.take_of_length_le (by rw [HL.out]; omega)
      rw [e] at h'
      have hw : WroteP w base b mg (L ++ (shortL n ++ pidsL l)) (.returned (.tuple #[])) wr := ⟨rfl, mg', h', ht', hm'⟩
      have HW := Lib.hid hw
      clear e h' ht' hm' hw
      go_wp2
      first | go_end0 | refine bodyPost_ret (results_none rfl _ _ _) rfl ?_
      exact HW.out
set_option maxRecDepth 100000 in
theorem wpids_none (A : Option Addr) (n c : Nat) (l : List Pr) (w : World) (hA : Es prC w w.heap.size A n l) (hm : n ≤ maxLen) :
    Calls Tryd.prog 46 #[.pointer none, .slice A n c] w fun e w' => e = .returned (.tuple #[]) ∧ Below w.heap.size w w' := by
  unfold maxLen at hm
  have wr : IntKind.u64.wrap (n : Int) = (n : Int) := by rw [IntKind.wrap_u64]; omega
  go_enter Tryd.func46, Tryd.ntmps46
  go_wp2_with fail
  refine (wnum_none n w (by omega)).mono ?_
  rintro e w2 ⟨rfl, hb2⟩
  go_wp2
  go_loopw [5, 13, 16] (fun x i y wr => ∃ j : Nat, j ≤ n ∧ i = .int .i64 j ∧ Below w.heap.size w wr) (fun _ i _ _ => n - (intOf i).toNat)
  case atStart => exact ⟨0, Nat.zero_le _, rfl, hb2⟩
  case round =>
    obtain ⟨j, hj, rfl, hb⟩ := hrel
    clear hb2
    by_cases hlt : j < n
    · obtain ⟨ad, hl, rfl, hbl, hc⟩ := (hA.below hb).at_ prOk hlt
      obtain ⟨q, hq⟩ : ∃ q, q = l[j] := ⟨_, rfl⟩
      rw [← hq] at hc
      obtain ⟨c0, c1⟩ := pr_at hc
      clear hc hq
      have hb1 := hb.alloc hb.size (.cells #[.int .u16 (q.i : Int), .int .u32 (q.k : Int)] 25)
      go_wp2_with fail
      refine (wpid_none q.i q.k _ q.hi q.hk).mono ?_
      rintro e w3 ⟨rfl, hb3⟩
      have hb4 := hb1.trans (hb3.mono hb1.size)
      clear hb1 hb3 c0 c1
      go_wp2
      go_roundw
      case rel => exact ⟨j + 1, by omega, by go_num, hb4⟩
      case measure => simp [intOf]; omega
    · go_wp2
      first | go_end0 | refine bodyPost_ret (results_none rfl _ _ _) rfl ?_
      exact ⟨rfl, hb⟩
theorem wdone_any (base b : Nat) (mg : Option Nat) (L : List UInt8) (w : World) (h : WrAt w base b mg L) (hn : L.length ≤ 100000000) :
    Calls Tryd.prog 12 #[.pointer (some ⟨b, 0, none⟩)] w (MakesB w L) := by
  obtain ⟨hbb, A0, c0, hblk, hmg, hO⟩ := h
  have f0 : w.cell? ⟨b, 0, none⟩ = some (.slice A0 L.length c0) := cell_of_row w b 0 _ _ (0, 0) hblk
  go_enter Tryd.func12, Tryd.ntmps12
  go_wp2_with fail
  refine (clone_any A0 L.length c0 L _ w hO.bs (Nat.le_refl _) (by omega)).mono ?_
  rintro e w1 ⟨A1, c1, rfl, hO1, hb1⟩
  have HW := hide (⟨A1, c1, rfl, hO1, hb1⟩ : MakesB w L (.returned (.slice A1 L.length c1)) w1)
  clear hO1 hb1
  go_wp2
  go_ret
  exact HW.out
theorem wdone_none (w : World) :
    Calls Tryd.prog 12 #[.pointer none] w fun e w' => e = .returned (.slice none 0 0) ∧ w = w' := by
  go_enter Tryd.func12, Tryd.ntmps12
  go_wp2
  go_ret
  exact ⟨rfl, rfl⟩
/-! ### The document's forms -/
end Go.Proofs.YtdmihbicpjmgjaaDoor
namespace Go.Proofs.YtdmihbicpjmgjaaDoor
open Go.RowKit

section
variable {P : Program} {ops : Array Oper} {md : Region.Mode} {w0 : World} {n : Nat} {Γ : Tmp → Word}
/-- Whatever order is picked among the first m; then L. -/
def wpHeadT (P : Program) (md : Region.Mode) (ops : Array Oper) (w0 : World) (n m : Nat) (L : Array Bool → (Tmp → Word) → Prop) : Nat → Array Bool → (Tmp → Word) → Prop
  | 0, listed, Γ => L listed Γ
  | f + 1, listed, Γ => Region.ready md ops listed ≠ [] ∧ ∀ i ∈ Region.ready md ops listed, i < m ∧ tOp P ops w0 n i (wpHeadT P md ops w0 n m L f (listed.setIfInBounds i true)) Γ
theorem wpHeadT_first {m i : Nat} {oi : Oper} {g : Word} {L : Array Bool → (Tmp → Word) → Prop} (hi : ops[i]? = some oi) (hg : Steady g)
    (hs : Region.sinkB md ops m = true) (hc : Region.chainB md ops m = true) (hn : m < ops.size) (hin : i < m)
    (hdone : ∀ listed Γ, L listed Γ → ∀ j ∈ Region.ready md ops listed, m ≤ j) :
    ∀ (f : Nat) (listed : Array Bool) (Γ : Tmp → Word), HeadInv md ops m listed →
      (∀ j oj, ops[j]? = some oj → j ≠ i → listed.getD j true = false → (∀ e ∈ oj.after, Region.binds md e = true → e.on ≠ i) → oi.apart ops oj = true) →
      i ∈ Region.ready md ops listed → Spec P ops w0 n Γ oi g →
      wpHeadT P md ops w0 n m L f (listed.setIfInBounds i true) (tput Γ oi.dst g) → wpHeadT P md ops w0 n m L (f + 1) listed Γ := by
  intro f
  induction f with
  | zero =>
    intro listed Γ inv _ hr hy H
    have hun := (mem_ready.1 hr).1
    refine ⟨fun h => (by rw [h] at hr; cases hr), fun j hj => ?_⟩
    have hjm : j < m := by
      rcases Nat.lt_or_ge j m with h | h
      · exact h
      · exact absurd hj (tail_waits hs hc hn inv _ i rfl hin hun j h)
    refine ⟨hjm, ?_⟩
    by_cases hji : j = i
    · subst hji
      unfold tOp; rw [hi]; exact ⟨g, hg, hy, H⟩
    · have := hdone _ _ H j (ready_mono hj hji)
      omega
  | succ f ih =>
    intro listed Γ inv hfree hr hy H
    have hun := (mem_ready.1 hr).1
    refine ⟨fun h => (by rw [h] at hr; cases hr), fun j hj => ?_⟩
    have hjm : j < m := by
      rcases Nat.lt_or_ge j m with h | h
      · exact h
      · exact absurd hj (tail_waits hs hc hn inv _ i rfl hin hun j h)
    refine ⟨hjm, ?_⟩
    by_cases hji : j = i
    · subst hji
      unfold tOp; rw [hi]; exact ⟨g, hg, hy, H⟩
    · obtain ⟨hjun, oj, hoj, hall⟩ := mem_ready.1 hj
      have hnot : ∀ e ∈ oj.after, Region.binds md e = true → e.on ≠ i := fun e he hb heq => by
        have h1 := hall e he hb
        rw [heq, getD_both hun] at h1
        cases h1
      obtain ⟨p1, p2, p3⟩ := Oper.apart_spec (hfree j oj hoj hji hjun hnot)
      have hstep := (H.2 j (ready_mono hj hji)).2
      unfold tOp at hstep ⊢
      rw [hoj] at hstep ⊢
      obtain ⟨gj, hsj, hyj, hK⟩ := hstep
      refine ⟨gj, hsj, hyj.unput p1, ?_⟩
      refine ih (listed.setIfInBounds j true) _ (inv.set hj hjm) (fun k ok hk hki hunk hnk => hfree k ok hk hki ?_ hnk) (ready_mono hr (Ne.symm hji)) (hy.put p3) ?_
      · by_cases hjk : j = k
        · subst hjk; exact hjun
        · rw [getD_set_ne true hjk] at hunk; exact hunk
      · rw [Array.setIfInBounds_comm _ _ hji, ← tput_comm Γ _ _ _ _ p2]
        exact hK
theorem wpHeadT_lex {m g : Nat} {Lq : (Tmp → Word) → Prop} (hs : Region.sinkB md ops m = true) (hc : Region.chainB md ops m = true) (hn : m < ops.size) :
    ∀ (l : List Oper) (k : Nat) (listed : Array Bool) (Γ : Tmp → Word), (∀ j, j < l.length → l[j]? = ops[k + j]?) → k + l.length = m → HeadInv md ops m listed →
    Region.lexHead md ops g l.length k listed = true → flow P ops w0 n Lq l Γ →
    wpHeadT P md ops w0 n m (fun listed' Γ' => Region.seqB md ops g m listed' = true ∧ Lq Γ') l.length listed Γ
  | [], k, listed, Γ, _, hk, _, hB, h => by
    have : k = m := by simpa using hk
    subst this
    exact ⟨by simpa [Region.lexHead] using hB, h⟩
  | o :: l, k, listed, Γ, hl, hk, inv, hB, h => by
    have h0 : ops[k]? = some o := by simpa using (hl 0 (by simp)).symm
    simp only [List.length_cons, Region.lexHead, Bool.and_eq_true] at hB
    obtain ⟨⟨hr, hf⟩, hB'⟩ := hB
    have hkn : k < m := by simp only [List.length_cons] at hk; omega
    have hr' : k ∈ Region.ready md ops listed := by simpa using hr
    obtain ⟨g', hg', hy, hK⟩ := h
    exact wpHeadT_first h0 hg' hs hc hn hkn (fun listed' Γ' hL => seqB_ready hL.1) l.length listed Γ inv (Region.free_spec h0 hf) hr' hy
      (wpHeadT_lex hs hc hn l (k + 1) _ _ (fun j hj => by have := hl (j + 1) (by simp; omega); simpa [Nat.add_assoc, Nat.add_comm 1 j] using this) (by simp only [List.length_cons] at hk; omega) (inv.set hr' hkn) hB' hK)
theorem wpAny_of_headT {m g : Nat} {L : Array Bool → (Tmp → Word) → Prop} {Q : Exit → Act → World → Prop} {ds : List Deferred} (hdst : ∀ o ∈ ops, ∀ t, o.dst = some t → t < n)
    (hL : ∀ listed Γ a w, Good w0 n ds Γ a w → L listed Γ → wpAny P md ops Q g listed a w) : ∀ (f : Nat) (listed : Array Bool) (Γ : Tmp → Word) (a : Act) (w : World), (∀ t, Steady (Γ t)) → Good w0 n ds Γ a w →
    wpHeadT P md ops w0 n m L f listed Γ → wpAny P md ops Q (f + g) listed a w
  | 0, _, _, _, _, _, hg, h => by rw [Nat.zero_add]; exact hL _ _ _ _ hg h
  | f + 1, _, _, _, _, hst, hg, h => by
    rw [show f + 1 + g = (f + g) + 1 by omega]
    exact ⟨fun h0 => absurd h0 h.1, fun i hi => wpOp_of_tOp hdst hst hg (fun Γ' a' w' hst' hg' hk => wpAny_of_headT hdst hL f _ Γ' a' w' hst' hg' hk) (h.2 i hi).2⟩
/-- THE REGION: the first m in the words of XFlow, the rest walked. -/
theorem wp_region_flow_tail {id : Nat} {Q : Exit → Act → World → Prop} {a : Act} {w : World} {l : List Oper} (m : Nat) (hm : P.follows .mixedOrders = true) (hB : Region.lexTailB .any l.toArray m = true) (hn : dstB l a.tmps.size = true)
    (h : flow P l.toArray w a.tmps.size (fun Γ => ∀ (f : Nat → Value) (w' : World), Below w.heap.size w w' → (∀ t, Γ t (f t) w') → wpList P l.toArray Q (l.drop m) (frameOf f a.tmps.size a.defers) w') (l.take m) (frameW a)) :
    (Code.region id l.toArray true).wp P Q a w := by
  simp only [Region.lexTailB, Bool.and_eq_true, decide_eq_true_eq] at hB
  obtain ⟨⟨⟨⟨hsel, hnn⟩, hs⟩, hc⟩, hlex⟩ := hB
  have hn' : m < l.length := by simpa using hnn
  have htl : (l.take m).length = m := by simp; omega
  have hdl : (l.drop m).length = l.toArray.size - m := by simp
  have inv0 : HeadInv .any l.toArray m (Array.replicate l.toArray.size false) :=
    ⟨by simp, fun j oj _ hl => (by rw [getD_replicate_false] at hl; cases hl), fun t _ ht => getD_in (by simpa using ht) (getD_replicate_false _ _)⟩
  have H := wpHeadT_lex (md := .any) (g := l.toArray.size - m) hs hc hnn (l.take m) 0 _ (frameW a) (fun j hj => by
    have hj' : j < m := by rw [htl] at hj; exact hj
    simp [hj']) (by simpa using htl) inv0 (by rw [htl]; exact hlex) h
  refine wp_region_any hm ?_
  have := wpAny_of_headT (w0 := w) (n := a.tmps.size) (ds := a.defers) (Q := Q) (g := l.toArray.size - m) (by simpa using dstB_spec hn) (fun listed Γ a' w' hg hL => by
    have e := frameOf_eval a'
    rw [hg.size, hg.defers] at e
    have h9 := wpAny_of_seq (P := P) (ops := l.toArray) (md := .any) (Q' := Q) (l.drop m) m listed a' w' (fun j => by simp [List.getElem?_drop]) (by rw [hdl]; exact hL.1) (by
      rw [e]
      exact hL.2 _ w' hg.later hg.word)
    rwa [hdl] at h9) _ _ (frameW a) a { w with drawn := w.drawn + 1 } (frameW_steady a) ⟨rfl, rfl, (Below.refl _ _).drew, fun _ => rfl⟩ H
  rw [htl, show m + (l.toArray.size - m) = l.toArray.size by omega] at this
  exact this
end
end Go.Proofs.YtdmihbicpjmgjaaDoor
