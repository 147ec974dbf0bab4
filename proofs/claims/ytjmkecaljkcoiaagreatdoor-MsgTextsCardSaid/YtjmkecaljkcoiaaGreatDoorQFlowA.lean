import Derived.Test.YtjmkecaljkcoiaaGreatDoorQOpenF
import Derived.Deep.Strs
import Derived.SizedLaws
import Derived.Test.YtjmkecaljkcoiaaGreatDoorQSortM
import Derived.Test.YtjmkecaljkcoiaaGreatDoorQWr1
import Derived.Deep.RegionHeld3
import Derived.StillTail
import Derived.Test.YtjmkecaljkcoiaaGreatDoorQFlow
import Derived.Laws.Rows
namespace Go.Proofs.YtjmkecaljkcoiaaGreatDoor
open Go.RowKit
set_option linter.unusedVariables false
set_option linter.unusedSimpArgs false
def pickF (a n : Int) : Int := if n < 1 then 0 else a % n
end Go.Proofs.YtjmkecaljkcoiaaGreatDoor
namespace Go.Proofs.YtjmkecaljkcoiaaGreatDoor
open Go.ChangeShapes Go.WideShapes Go.RowKit
set_option linter.unusedVariables false
set_option linter.unusedSimpArgs false
structure Th where
  kind : Int
  n : Nat
  t : Bool
  r : Nat
  p : Pr
  A : Option Addr
  m : Nat
  c : Nat
  l : List UInt8
  B : Option Addr
  d : Nat
  e : Nat
  q : List Pr
  most : Int
def thC (x : Th) : List Value := [.int .i64 x.kind, .int .u64 x.n, .bool x.t, .int .u32 x.r, .int .u16 x.p.i, .int .u32 x.p.k, .slice x.A x.m x.c, .slice x.B x.d x.e, .int .i64 x.most]
structure ThIn (w : World) (B0 : Nat) (x : Th) : Prop where
  k0 : -9223372036854775808 ≤ x.kind
  k1 : x.kind ≤ 9223372036854775807
  hn : x.n < 18446744073709551616
  hr : x.r < 4294967296
  bs : Bs w B0 x.A x.m x.l
  mc : x.m ≤ x.c
  room : x.c ≤ maxLen
  es : Es prC w B0 x.B x.d x.q
  de : x.d ≤ x.e
  room2 : x.e ≤ maxLen
  o0 : -9223372036854775808 ≤ x.most
  o1 : x.most ≤ 9223372036854775807
theorem ThIn.below {w w' : World} {B0 : Nat} {x : Th} (h : ThIn w B0 x) (hb : Below B0 w w') : ThIn w' B0 x := ⟨h.k0, h.k1, h.hn, h.hr, h.bs.below hb, h.mc, h.room, h.es.below hb, h.de, h.room2, h.o0, h.o1⟩
def Things0 (w : World) (A : Option Addr) (n c : Nat) (l : List Th) : Prop := Es thC w w.heap.size A n l ∧ n ≤ c ∧ c ≤ maxLen ∧ ∀ a ∈ l, ThIn w w.heap.size a
theorem cells_bool : Tryz.prog.cellsOf 4 = 1 := by kernel_rfl
section
variable {H : Type} {enc : TypeId × Value → H} {w : World} {base : Nat} {spare : Nat → Bool} {held : Bool}
end
def pidsL (l : List Pr) : List UInt8 := l.flatMap fun p => pidL p.i p.k
theorem pidsL_snoc (l : List Pr) (p : Pr) : pidsL (l ++ [p]) = pidsL l ++ pidL p.i p.k := by simp [pidsL]
theorem pidsL_cons (l : List Pr) (p : Pr) : pidsL (p :: l) = pidL p.i p.k ++ pidsL l := by simp [pidsL]
theorem pidsL_take {l : List Pr} {j : Nat} (h : j < l.length) : pidsL (l.take (j + 1)) = pidsL (l.take j) ++ pidL l[j].i l[j].k := by
  rw [List.take_succ_eq_append_getElem h, pidsL_snoc]
theorem pidsL_len (l : List Pr) : (pidsL l).length ≤ 20 * l.length := by
  induction l with
  | nil => simp [pidsL]
  | cons p l ih => rw [pidsL_cons, List.length_append, List.length_cons]; have := pidL_len p.i p.k; omega
def Small (l : List Th) (j : Nat) : Prop := ∀ a ∈ l.take j, a.m ≤ 300 ∧ a.d ≤ 60
theorem Small.step {l : List Th} {j : Nat} (h : Small l j) (hj : j < l.length) (ha : l[j].m ≤ 300 ∧ l[j].d ≤ 60) : Small l (j + 1) := by
  unfold Small at *
  rw [List.take_succ_eq_append_getElem hj]
  intro a h'
  rw [List.mem_append, List.mem_singleton] at h'
  exact h'.elim (h a) (fun e => e ▸ ha)
def GreatP (w : World) (l : List Th) (e : Ending) (w' : World) : Prop := ∃ b : Bool, e = .returned (.bool b) ∧ (b = false → Small l 60) ∧ w = w'
end Go.Proofs.YtjmkecaljkcoiaaGreatDoor
namespace Go.Proofs.YtjmkecaljkcoiaaGreatDoor
open Go.RowKit
set_option linter.unusedVariables false
set_option linter.unusedSimpArgs false
set_option maxRecDepth 100000 in
theorem wballot_any (base b : Nat) (mg : Option Nat) (L : List UInt8) (r i k : Nat) (w : World) (h : WrAt w base b mg L) (hbase : base ≤ w.heap.size) (hn : L.length ≤ 9000000) (hr : r < 4294967296) (hi : i < 65536) (hk : k < 4294967296) :
    Calls Tryz.prog 152 #[.pointer (some ⟨b, 0, none⟩), .agg #[.int .u32 r, .int .u16 i, .int .u32 k]] w (WroteP w base b mg (L ++ (shortL r ++ pidL i k))) := by
  have hb1 : Below w.heap.size w (w.alloc (.cells #[.int .u32 r, .int .u16 i, .int .u32 k] 46)) := (Below.refl _ _).alloc (Nat.le_refl _) _
  have d0 : (w.alloc (.cells #[.int .u32 r, .int .u16 i, .int .u32 k] 46)).cell? ⟨w.heap.size, 0, none⟩ = some (.int .u32 r) := by go_simp
  have d1 : (w.alloc (.cells #[.int .u32 r, .int .u16 i, .int .u32 k] 46)).cell? ⟨w.heap.size, 1, none⟩ = some (.int .u16 i) := by go_simp
  have d2 : (w.alloc (.cells #[.int .u32 r, .int .u16 i, .int .u32 k] 46)).cell? ⟨w.heap.size, 2, none⟩ = some (.int .u32 k) := by go_simp
  have hlt := h.lt
  have hml := h.mlt
  have wr : IntKind.u64.wrap (r : Int) = (r : Int) := by rw [IntKind.wrap_u64]; omega
  go_enter Tryz.func152, Tryz.ntmps152
  go_wp2_with fail
  generalize (w.alloc (.cells #[.int .u32 r, .int .u16 i, .int .u32 k] 46)) = w1 at hb1 d0 d1 d2 ⊢
  have hs1 := hb1.size
  refine (wnum_any base b mg L r w1 (h.later hb1) (by omega) (by omega) (by omega)).mono ?_
  rintro e w2 ⟨rfl, mg2, h2, ht2, hm2⟩
  have f1 := ht2.cell d1 (by simp; omega) (fun e => by have := (hml _ e.symm).2.1; simp at this)
  have f2 := ht2.cell d2 (by simp; omega) (fun e => by have := (hml _ e.symm).2.1; simp at this)
  have hs2 := ht2.size
  clear d0 d1 d2
  have hl2 : (L ++ shortL r).length ≤ 10000000 := by rw [List.length_append]; have := (shortL_len r).2; omega
  go_wp2_with fail
  refine (wpid_any base b mg2 _ i k w2 h2 (by omega) hl2 hi hk).mono ?_
  rintro e w3 ⟨rfl, hw⟩
  have hz := WroteP.ahead hb1 (WroteP.two ht2 hm2 ⟨rfl, hw⟩)
  rw [List.append_assoc] at hz
  have HW := hide hz
  clear hz hw f1 f2
  go_wp2
  first | go_end0 | refine bodyPost_ret (results_none rfl _ _ _) rfl ?_
  exact HW.out
set_option maxRecDepth 100000 in
theorem wbytes_any (base b : Nat) (mg : Option Nat) (L : List UInt8) (A : Option Addr) (n c : Nat) (l : List UInt8) (w : World) (h : WrAt w base b mg L) (hbase : base ≤ w.heap.size) (hn : L.length ≤ 9000000) (hA : Bs w base A n l) (hm : n ≤ 9000000) :
    Calls Tryz.prog 156 #[.pointer (some ⟨b, 0, none⟩), .slice A n c] w (WroteP w base b mg (L ++ (shortL n ++ l))) := by
  have wr : IntKind.u64.wrap (n : Int) = (n : Int) := by rw [IntKind.wrap_u64]; omega
  go_enter Tryz.func156, Tryz.ntmps156
  go_wp2_with fail
  refine (wnum_any base b mg L n w h hbase (by omega) (by omega)).mono ?_
  rintro e w2 ⟨rfl, mg2, h2, ht2, hm2⟩
  have hA2 := hA.below (h.turned ht2 hbase)
  have hs2 := ht2.size
  have hl2 : (L ++ shortL n).length ≤ 10000000 := by rw [List.length_append]; have := (shortL_len n).2; omega
  go_wp2_with fail
  refine (lay_any base b mg2 _ A n c l base w2 h2 hA2 (by omega) (by omega)).mono ?_
  rintro e w3 ⟨rfl, hw⟩
  have hz := WroteP.two ht2 hm2 ⟨rfl, hw⟩
  rw [List.append_assoc] at hz
  have HW := hide hz
  clear hz hw
  go_wp2
  first | go_end0 | refine bodyPost_ret (results_none rfl _ _ _) rfl ?_
  exact HW.out
theorem Turn.two {w w1 w2 : World} {b : Nat} {mg mg1 mg2 : Option Nat} (h1 : Turn w w1 b mg) (m1 : Mov w mg mg1) (h2 : Turn w1 w2 b mg1) (m2 : Mov w1 mg1 mg2) : Turn w w2 b mg ∧ Mov w mg mg2 := ⟨h1.trans h2 m1, m1.trans m2 h1.size⟩
set_option maxRecDepth 100000 in
theorem wpids_any (base b : Nat) (mg : Option Nat) (L : List UInt8) (A : Option Addr) (n c : Nat) (l : List Pr) (w : World) (h : WrAt w base b mg L) (hbase : base ≤ w.heap.size) (hn : L.length ≤ 9000000) (hA : Es prC w base A n l) (hm : n ≤ 1000) :
    Calls Tryz.prog 202 #[.pointer (some ⟨b, 0, none⟩), .slice A n c] w (WroteP w base b mg (L ++ (shortL n ++ pidsL l))) := by
  have wr : IntKind.u64.wrap (n : Int) = (n : Int) := by rw [IntKind.wrap_u64]; omega
  have hlen := hA.len
  have hpl := fun j => pidsL_len (l.take j)
  have hsl := (shortL_len n).2
  have HL := hide hlen
  have HP := hide hpl
  clear hlen hpl
  go_enter Tryz.func202, Tryz.ntmps202
  go_wp2_with fail
  refine (wnum_any base b mg L n w h hbase (by omega) (by omega)).mono ?_
  rintro e w2 ⟨rfl, mg2, h2, ht2, hm2⟩
  have H0 : WrAt w2 base b mg2 (L ++ (shortL n ++ pidsL (l.take 0))) := by simpa [pidsL] using h2
  go_wp2
  go_loopw [5, 13, 16] (fun x i y wr => ∃ j : Nat, j ≤ n ∧ i = .int .i64 j ∧ ∃ mg', WrAt wr base b mg' (L ++ (shortL n ++ pidsL (l.take j))) ∧ Turn w wr b mg ∧ Mov w mg mg') (fun _ i _ _ => n - (intOf i).toNat)
  case atStart => exact ⟨0, Nat.zero_le _, rfl, mg2, H0, ht2, hm2⟩
  case round =>
    obtain ⟨j, hj, rfl, mg', h', ht', hm'⟩ := hrel
    clear h2 ht2 hm2 H0
    by_cases hlt : j < n
    · obtain ⟨ad, hl, rfl, hbl, hc⟩ := (hA.below (h.turned ht' hbase)).at_ prOk hlt
      obtain ⟨q, hq⟩ : ∃ q, q = l[j] := ⟨_, rfl⟩
      rw [← hq] at hc
      obtain ⟨c0, c1⟩ := pr_at hc
      have hstep := pidsL_take hl
      rw [← hq] at hstep
      have HS := hide hstep
      have hs' := ht'.size
      clear hc hq hstep
      have hb1 : Below wr.heap.size wr (wr.alloc (.cells #[.int .u16 q.i, .int .u32 q.k] 44)) := (Below.refl _ _).alloc (Nat.le_refl _) _
      have hl2 : (L ++ (shortL n ++ pidsL (l.take j))).length ≤ 10000000 := by
        have h1 := HP.out j
        have h2 : (l.take j).length ≤ j := List.length_take_le _ _
        rw [List.length_append, List.length_append]
        omega
      go_wp2_with fail
      refine (wpid_any base b mg' _ q.i q.k _ (h'.later hb1) (by simp; omega) hl2 q.hi q.hk).mono ?_
      rintro e w3 ⟨rfl, mg3, h3, ht3, hm3⟩
      rw [List.append_assoc, List.append_assoc, ← HS.out] at h3
      have hm3' : Mov wr mg' mg3 := by
        rcases hm3 with rfl | ⟨g, rfl, hg⟩
        · exact .inl rfl
        · exact .inr ⟨g, rfl, Nat.le_trans hb1.size hg⟩
      obtain ⟨ht4, hm4⟩ := Turn.two ht' hm' (Turn.ahead hb1 ht3) hm3'
      clear hb1 hl2 c0 c1 h' ht' hm' ht3 hm3 hm3'
      go_wp2
      go_roundw
      case rel => exact ⟨j + 1, by omega, by go_num, mg3, h3, ht4, hm4⟩
      case measure => simp [intOf]; omega
    · have e : l.take j = l := List.take_of_length_le (by rw [HL.out]; omega)
      rw [e] at h'
      have hw : WroteP w base b mg (L ++ (shortL n ++ pidsL l)) (.returned (.tuple #[])) wr := ⟨rfl, mg', h', ht', hm'⟩
      have HW := Lib.hid hw
      clear e h' ht' hm' hw
      go_wp2
      first | go_end0 | refine bodyPost_ret (results_none rfl _ _ _) rfl ?_
      exact HW.out
theorem wdone_any (base b : Nat) (mg : Option Nat) (L : List UInt8) (w : World) (h : WrAt w base b mg L) (hn : L.length ≤ 100000000) :
    Calls Tryz.prog 101 #[.pointer (some ⟨b, 0, none⟩)] w (MakesB w L) := by
  obtain ⟨hbb, A0, c0, hblk, hmg, hO⟩ := h
  have f0 : w.cell? ⟨b, 0, none⟩ = some (.slice A0 L.length c0) := cell_of_row w b 0 _ _ (0, 0) hblk
  go_enter Tryz.func101, Tryz.ntmps101
  go_wp2_with fail
  refine (clone_any A0 L.length c0 L _ w hO.bs (Nat.le_refl _) (by omega)).mono ?_
  rintro e w1 ⟨A1, c1, rfl, hO1, hb1⟩
  have HW := hide (⟨A1, c1, rfl, hO1, hb1⟩ : MakesB w L (.returned (.slice A1 L.length c1)) w1)
  clear hO1 hb1
  go_wp2
  go_ret
  exact HW.out
end Go.Proofs.YtjmkecaljkcoiaaGreatDoor
namespace Go.Proofs.YtjmkecaljkcoiaaGreatDoor
open Go.RowKit
section
variable {P : Program} {ops : Array Oper} {md : Region.Mode} {w0 : World} {n : Nat} {Γ : Tmp → Word}
def wpHeadT (P : Program) (md : Region.Mode) (ops : Array Oper) (w0 : World) (n m : Nat) (L : Array Bool → (Tmp → Word) → Prop) : Nat → Array Bool → (Tmp → Word) → Prop
  | 0, listed, Γ => L listed Γ
  | f + 1, listed, Γ => Region.ready md ops listed ≠ [] ∧ ∀ i ∈ Region.ready md ops listed, i < m ∧ tOp P ops w0 n i (wpHeadT P md ops w0 n m L f (listed.setIfInBounds i true)) Γ
theorem wpHeadT_first {m i : Nat} {oi : Oper} {g : Word} {L : Array Bool → (Tmp → Word) → Prop} (hi : ops[i]? = some oi) (hg : Steady g)
    (hs : Region.sinkB md ops m = true) (hc : Region.chainB md ops m = true) (hn : m < ops.size) (hin : i < m)
    (hdone : ∀ listed Γ, L listed Γ → ∀ j ∈ Region.ready md ops listed, m ≤ j) :
    ∀ (f : Nat) (listed : Array Bool) (Γ : Tmp → Word), HeadInv md ops m listed →
      (∀ j oj, ops[j]? = some oj → j ≠ i → listed.getD j true = false → (∀ e ∈ oj.after, Region.binds md e = true → e.on ≠ i) → oi.apart ops oj = true) →
      i ∈ Region.ready md ops listed → Spec P ops w0 n Γ oi g →
      wpHeadT P md ops w0 n m L f (listed.setIfInBounds i true) (tput Γ oi.dst g) → wpHeadT P md ops w0 n m L (f + 1) listed Γ := by
  intro f
  induction f with
  | zero =>
    intro listed Γ inv _ hr hy H
    have hun := (mem_ready.1 hr).1
    refine ⟨fun h => (by rw [h] at hr; cases hr), fun j hj => ?_⟩
    have hjm : j < m := by
      rcases Nat.lt_or_ge j m with h | h
      · exact h
      · exact absurd hj (tail_waits hs hc hn inv _ i rfl hin hun j h)
    refine ⟨hjm, ?_⟩
    by_cases hji : j = i
    · subst hji
      unfold tOp; rw [hi]; exact ⟨g, hg, hy, H⟩
    · have := hdone _ _ H j (ready_mono hj hji)
      omega
  | succ f ih =>
    intro listed Γ inv hfree hr hy H
    have hun := (mem_ready.1 hr).1
    refine ⟨fun h => (by rw [h] at hr; cases hr), fun j hj => ?_⟩
    have hjm : j < m := by
      rcases Nat.lt_or_ge j m with h | h
      · exact h
      · exact absurd hj (tail_waits hs hc hn inv _ i rfl hin hun j h)
    refine ⟨hjm, ?_⟩
    by_cases hji : j = i
    · subst hji
      unfold tOp; rw [hi]; exact ⟨g, hg, hy, H⟩
    · obtain ⟨hjun, oj, hoj, hall⟩ := mem_ready.1 hj
      have hnot : ∀ e ∈ oj.after, Region.binds md e = true → e.on ≠ i := fun e he hb heq => by
        have h1 := hall e he hb
        rw [heq, getD_both hun] at h1
        cases h1
      obtain ⟨p1, p2, p3⟩ := Oper.apart_spec (hfree j oj hoj hji hjun hnot)
      have hstep := (H.2 j (ready_mono hj hji)).2
      unfold tOp at hstep ⊢
      rw [hoj] at hstep ⊢
      obtain ⟨gj, hsj, hyj, hK⟩ := hstep
      refine ⟨gj, hsj, hyj.unput p1, ?_⟩
      refine ih (listed.setIfInBounds j true) _ (inv.set hj hjm) (fun k ok hk hki hunk hnk => hfree k ok hk hki ?_ hnk) (ready_mono hr (Ne.symm hji)) (hy.put p3) ?_
      · by_cases hjk : j = k
        · subst hjk; exact hjun
        · rw [getD_set_ne true hjk] at hunk; exact hunk
      · rw [Array.setIfInBounds_comm _ _ hji, ← tput_comm Γ _ _ _ _ p2]
        exact hK
theorem wpHeadT_lex {m g : Nat} {Lq : (Tmp → Word) → Prop} (hs : Region.sinkB md ops m = true) (hc : Region.chainB md ops m = true) (hn : m < ops.size) :
    ∀ (l : List Oper) (k : Nat) (listed : Array Bool) (Γ : Tmp → Word), (∀ j, j < l.length → l[j]? = ops[k + j]?) → k + l.length = m → HeadInv md ops m listed →
    Region.lexHead md ops g l.length k listed = true → flow P ops w0 n Lq l Γ →
    wpHeadT P md ops w0 n m (fun listed' Γ' => Region.seqB md ops g m listed' = true ∧ Lq Γ') l.length listed Γ
  | [], k, listed, Γ, _, hk, _, hB, h => by
    have : k = m := by simpa using hk
    subst this
    exact ⟨by simpa [Region.lexHead] using hB, h⟩
  | o :: l, k, listed, Γ, hl, hk, inv, hB, h => by
    have h0 : ops[k]? = some o := by simpa using (hl 0 (by simp)).symm
    simp only [List.length_cons, Region.lexHead, Bool.and_eq_true] at hB
    obtain ⟨⟨hr, hf⟩, hB'⟩ := hB
    have hkn : k < m := by simp only [List.length_cons] at hk; omega
    have hr' : k ∈ Region.ready md ops listed := by simpa using hr
    obtain ⟨g', hg', hy, hK⟩ := h
    exact wpHeadT_first h0 hg' hs hc hn hkn (fun listed' Γ' hL => seqB_ready hL.1) l.length listed Γ inv (Region.free_spec h0 hf) hr' hy
      (wpHeadT_lex hs hc hn l (k + 1) _ _ (fun j hj => by have := hl (j + 1) (by simp; omega); simpa [Nat.add_assoc, Nat.add_comm 1 j] using this) (by simp only [List.length_cons] at hk; omega) (inv.set hr' hkn) hB' hK)
theorem wpAny_of_headT {m g : Nat} {L : Array Bool → (Tmp → Word) → Prop} {Q : Exit → Act → World → Prop} {ds : List Deferred} (hdst : ∀ o ∈ ops, ∀ t, o.dst = some t → t < n)
    (hL : ∀ listed Γ a w, Good w0 n ds Γ a w → L listed Γ → wpAny P md ops Q g listed a w) : ∀ (f : Nat) (listed : Array Bool) (Γ : Tmp → Word) (a : Act) (w : World), (∀ t, Steady (Γ t)) → Good w0 n ds Γ a w →
    wpHeadT P md ops w0 n m L f listed Γ → wpAny P md ops Q (f + g) listed a w
  | 0, _, _, _, _, _, hg, h => by rw [Nat.zero_add]; exact hL _ _ _ _ hg h
  | f + 1, _, _, _, _, hst, hg, h => by
    rw [show f + 1 + g = (f + g) + 1 by omega]
    exact ⟨fun h0 => absurd h0 h.1, fun i hi => wpOp_of_tOp hdst hst hg (fun Γ' a' w' hst' hg' hk => wpAny_of_headT hdst hL f _ Γ' a' w' hst' hg' hk) (h.2 i hi).2⟩
theorem wp_region_flow_tail {id : Nat} {Q : Exit → Act → World → Prop} {a : Act} {w : World} {l : List Oper} (m : Nat) (hm : P.follows .mixedOrders = true) (hB : Region.lexTailB .any l.toArray m = true) (hn : dstB l a.tmps.size = true)
    (h : flow P l.toArray w a.tmps.size (fun Γ => ∀ (f : Nat → Value) (w' : World), Below w.heap.size w w' → (∀ t, Γ t (f t) w') → wpList P l.toArray Q (l.drop m) (frameOf f a.tmps.size a.defers) w') (l.take m) (frameW a)) :
    (Code.region id l.toArray true).wp P Q a w := by
  simp only [Region.lexTailB, Bool.and_eq_true, decide_eq_true_eq] at hB
  obtain ⟨⟨⟨⟨hsel, hnn⟩, hs⟩, hc⟩, hlex⟩ := hB
  have hn' : m < l.length := by simpa using hnn
  have htl : (l.take m).length = m := by simp; omega
  have hdl : (l.drop m).length = l.toArray.size - m := by simp
  have inv0 : HeadInv .any l.toArray m (Array.replicate l.toArray.size false) :=
    ⟨by simp, fun j oj _ hl => (by rw [getD_replicate_false] at hl; cases hl), fun t _ ht => getD_in (by simpa using ht) (getD_replicate_false _ _)⟩
  have H := wpHeadT_lex (md := .any) (g := l.toArray.size - m) hs hc hnn (l.take m) 0 _ (frameW a) (fun j hj => by
    have hj' : j < m := by rw [htl] at hj; exact hj
    simp [hj']) (by simpa using htl) inv0 (by rw [htl]; exact hlex) h
  refine wp_region_any hm ?_
  have := wpAny_of_headT (w0 := w) (n := a.tmps.size) (ds := a.defers) (Q := Q) (g := l.toArray.size - m) (by simpa using dstB_spec hn) (fun listed Γ a' w' hg hL => by
    have e := frameOf_eval a'
    rw [hg.size, hg.defers] at e
    have h9 := wpAny_of_seq (P := P) (ops := l.toArray) (md := .any) (Q' := Q) (l.drop m) m listed a' w' (fun j => by simp [List.getElem?_drop]) (by rw [hdl]; exact hL.1) (by
      rw [e]
      exact hL.2 _ w' hg.later hg.word)
    rwa [hdl] at h9) _ _ (frameW a) a { w with drawn := w.drawn + 1 } (frameW_steady a) ⟨rfl, rfl, (Below.refl _ _).drew, fun _ => rfl⟩ H
  rw [htl, show m + (l.toArray.size - m) = l.toArray.size by omega] at this
  exact this
end
end Go.Proofs.YtjmkecaljkcoiaaGreatDoor
namespace Go.Proofs.YtjmkecaljkcoiaaGreatDoor
open Go.RowKit
structure Sep (D : List Tmp) (a : Act) (w : World) : Prop where
  low : ∀ s ∈ D, ∀ p, a.eval (.tmp s) = .pointer (some p) → p.block < w.heap.size
  ne : ∀ s ∈ D, ∀ t ∈ D, s ≠ t → ∀ p q, a.eval (.tmp s) = .pointer (some p) → a.eval (.tmp t) = .pointer (some q) → p.block ≠ q.block
theorem eval_put_other (a : Act) (d : Option Tmp) (v : Value) (t : Tmp) (h : d ≠ some t) : (a.put d v).eval (.tmp t) = a.eval (.tmp t) :=
  Act.eval_put (fun e he hx => h (by injection hx with hx; rw [he, hx]))
theorem eval_put_same (a : Act) (d : Tmp) (v : Value) (h : d < a.tmps.size) : (a.put (some d) v).eval (.tmp d) = v := by
  simp [Act.eval, Act.put, h]
theorem Sep.other {D : List Tmp} {a : Act} {w w' : World} {d : Option Tmp} {v : Value} (h : Sep D a w) (hd : ∀ t ∈ D, d ≠ some t) (hw : w.heap.size ≤ w'.heap.size) : Sep D (a.put d v) w' := by
  refine ⟨fun s hs p hp => ?_, fun s hs t ht hst p q hp hq => ?_⟩
  · rw [eval_put_other a d v s (hd s hs)] at hp
    exact Nat.lt_of_lt_of_le (h.low s hs p hp) hw
  · rw [eval_put_other a d v s (hd s hs)] at hp
    rw [eval_put_other a d v t (hd t ht)] at hq
    exact h.ne s hs t ht hst p q hp hq
theorem Sep.new {D : List Tmp} {a : Act} {w : World} {d : Tmp} (h : Sep D a w) (hd : d < a.tmps.size) (ob : Obj) : Sep D (a.put (some d) (.pointer (some ⟨w.heap.size, 0, none⟩))) (w.alloc ob) := by
  have hz : (w.alloc ob).heap.size = w.heap.size + 1 := by simp
  refine ⟨fun s hs p hp => ?_, fun s hs t ht hst p q hp hq => ?_⟩
  · by_cases hsd : s = d
    · subst hsd
      rw [eval_put_same a s _ hd] at hp
      injection hp with hp; injection hp with hp
      subst hp
      simp
    · rw [eval_put_other a _ _ s (fun e => hsd (Option.some.inj e).symm)] at hp
      have := h.low s hs p hp
      omega
  · by_cases hsd : s = d
    · subst hsd
      rw [eval_put_same a s _ hd] at hp
      rw [eval_put_other a _ _ t (fun e => hst (Option.some.inj e))] at hq
      have := h.low t ht q hq
      injection hp with hp; injection hp with hp
      subst hp
      simp only
      omega
    · rw [eval_put_other a _ _ s (fun e => hsd (Option.some.inj e).symm)] at hp
      by_cases htd : t = d
      · subst htd
        rw [eval_put_same a t _ hd] at hq
        have := h.low s hs p hp
        injection hq with hq; injection hq with hq
        subst hq
        simp only
        omega
      · rw [eval_put_other a _ _ t (fun e => htd (Option.some.inj e).symm)] at hq
        exact h.ne s hs t ht hst p q hp hq
section
variable {P : Program} {ops : Array Oper} {md : Region.Mode} {w0 : World} {n : Nat} {Γ : Tmp → Word} {D : List Tmp}
def Makers (P : Program) (ops : Array Oper) (D : List Tmp) : Prop :=
  ∀ o ∈ ops, ∀ d ∈ D, o.dst = some d → o.guard = none ∧ ∃ ob, ∀ (ρ : Operand → Value) (w : World), (execOp ρ o).run P w = .ok (.value (.pointer (some ⟨w.heap.size, 0, none⟩))) (w.alloc ob)
def makersB (l : List Oper) (D : List Tmp) (T : TypeId) : Bool :=
  l.all fun o => match o.dst with
    | some d => !(D.contains d) || (o.guard.isNone && (match o.op with | .alloc t => t == T | _ => false))
    | none => true
def NewW (T : TypeId) (cs : Array Value) (B : Nat) : Word := fun v w => ∃ g, v = .pointer (some ⟨g, 0, none⟩) ∧ B ≤ g ∧ w.heap[g]? = some (.cells cs T (0, 0))
variable {E : (Tmp → Word) → Prop} {o : Oper} {l : List Oper}
end
end Go.Proofs.YtjmkecaljkcoiaaGreatDoor
