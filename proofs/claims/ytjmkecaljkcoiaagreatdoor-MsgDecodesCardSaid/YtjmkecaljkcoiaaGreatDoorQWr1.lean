import Derived.Test.YtjmkecaljkcoiaaGreatDoorQPid3
import Derived.Test.YtjmkecaljkcoiaaGreatDoorQPut1
import Derived.Test.YtjmkecaljkcoiaaGreatDoorQShort1
namespace Go.Proofs.YtjmkecaljkcoiaaGreatDoor
open Go.RowKit
set_option linter.unusedVariables false
theorem pidG_bds (l : List UInt8) : (pidG l).1 < 65536 ∧ (pidG l).2.1 < 4294967296 ∧ (pidG l).2.2.1 ≤ l.length ∧ (pidG l).2.2.2 ≤ 5 := by
  have h1 := getF_bds l
  have h2 := getF_bds (l.drop (getF l).2.1)
  by_cases a1 : (getF l).2.2 = 0
  · by_cases a2 : (getF (l.drop (getF l).2.1)).2.2 = 0
    · by_cases a3 : (getF l).1 < 65536 ∧ (getF (l.drop (getF l).2.1)).1 < 4294967296
      · rw [pidG_4 a1 a2 a3]
        refine ⟨a3.1, a3.2, ?_, Nat.zero_le _⟩
        show (getF l).2.1 + (getF (l.drop (getF l).2.1)).2.1 ≤ l.length
        have := h2.2.1
        rw [List.length_drop] at this
        omega
      · rw [pidG_3 a1 a2 a3]; exact ⟨by decide, by decide, Nat.zero_le _, show 5 ≤ 5 by decide⟩
    · rw [pidG_2 a1 a2]; exact ⟨show 0 < 65536 by decide, show 0 < 4294967296 by decide, Nat.zero_le _, h2.2.2.2⟩
  · rw [pidG_1 a1]; exact ⟨show 0 < 65536 by decide, show 0 < 4294967296 by decide, Nat.zero_le _, h1.2.2.2⟩
theorem pidL_len (i c : Nat) : (pidL i c).length ≤ 20 := by
  rw [pidL, List.length_append]; have := (shortL_len i).2; have := (shortL_len c).2; omega
end Go.Proofs.YtjmkecaljkcoiaaGreatDoor
namespace Go.Proofs.YtjmkecaljkcoiaaGreatDoor
open Go.RowKit
set_option linter.unusedVariables false
set_option linter.unusedSimpArgs false
def WrAt (w : World) (base b : Nat) (mg : Option Nat) (l : List UInt8) : Prop :=
  base ≤ b ∧ ∃ A c, w.heap[b]? = some (.cells #[.slice A l.length c] 145 (0, 0)) ∧ (Value.slice A l.length c).ownBlock = mg ∧ OwnB w base (.slice A l.length c) l.length l
section
variable {w w' : World} {base b : Nat} {mg : Option Nat} {l : List UInt8}
theorem WrAt.lt (h : WrAt w base b mg l) : b < w.heap.size := by
  obtain ⟨_, A, c, h, _⟩ := h
  exact lt_of_heap h
theorem WrAt.mlt (h : WrAt w base b mg l) : ∀ g, mg = some g → base ≤ g ∧ g < w.heap.size ∧ g ≠ b := by
  obtain ⟨_, A, c, h1, h2, h3⟩ := h
  intro g hg
  have hlt := h3.lt g (by rw [h2]; exact hg)
  refine ⟨hlt.1, hlt.2, fun e => ?_⟩
  subst e
  rcases h3.2 with ⟨hv, _⟩ | ⟨g', cap, cur, hv, _, hh, _⟩
  · rw [hv] at h2
    rw [← h2] at hg
    cases hg
  · rw [hv] at h2
    rw [← h2] at hg
    injection hg with e
    simp only at e
    subst e
    rw [h1] at hh
    injection hh with hh
    injection hh with _ e2
    exact absurd e2 (by decide)
theorem WrAt.keep (h : WrAt w base b mg l) (h1 : w'.heap[b]? = w.heap[b]?) (h2 : ∀ g, mg = some g → w'.heap[g]? = w.heap[g]?) : WrAt w' base b mg l := by
  obtain ⟨hbb, A, c, k1, k2, k3⟩ := h
  refine ⟨hbb, A, c, h1.trans k1, k2, k3.1, ?_⟩
  rcases k3.2 with h0 | ⟨g, cap, cur, hv, hb, hh, r⟩
  · exact .inl h0
  · refine .inr ⟨g, cap, cur, hv, hb, (h2 g ?_).trans hh, r⟩
    rw [← k2, hv]
    rfl
theorem WrAt.below {B : Nat} (h : WrAt w base b mg l) (hb : Below B w w') (hB : b < B) (hm : ∀ g, mg = some g → g < B) : WrAt w' base b mg l := h.keep (hb.block b hB) fun g hg => hb.block g (hm g hg)
theorem WrAt.later (h : WrAt w base b mg l) (hb : Below w.heap.size w w') : WrAt w' base b mg l := h.below hb h.lt fun g hg => (h.mlt g hg).2.1
theorem WrAt.turned (h : WrAt w base b mg l) (ht : Turn w w' b mg) (hs : base ≤ w.heap.size) : Below base w w' := ht.below hs h.1 fun g hg => (h.mlt g hg).1
theorem WrAt.alloc (h : WrAt w base b mg l) (o : Obj) : WrAt (w.alloc o) base b mg l := h.later ((Below.refl _ _).alloc (Nat.le_refl _) o)
theorem WrAt.new (w : World) (base : Nat) (hb : base ≤ w.heap.size) : WrAt (w.alloc (.cells #[.slice none 0 0] 145)) base w.heap.size none [] := ⟨hb, none, 0, heap_alloc_new w _, rfl, OwnB.nil_ _ _⟩
end
def WroteP (w : World) (base b : Nat) (mg : Option Nat) (l : List UInt8) (e : Ending) (w' : World) : Prop :=
  e = .returned (.tuple #[]) ∧ ∃ mg', WrAt w' base b mg' l ∧ Turn w w' b mg ∧ Mov w mg mg'
theorem WroteP.ahead {w w1 : World} {base b : Nat} {mg : Option Nat} {l : List UInt8} {e : Ending} {w' : World} (hb : Below w.heap.size w w1) (h : WroteP w1 base b mg l e w') : WroteP w base b mg l e w' := by
  obtain ⟨he, mg', h1, h2, h3⟩ := h
  refine ⟨he, mg', h1, Turn.ahead hb h2, ?_⟩
  rcases h3 with rfl | ⟨g, rfl, hg⟩
  · exact .inl rfl
  · exact .inr ⟨g, rfl, Nat.le_trans hb.size hg⟩
theorem WroteP.two {w w1 : World} {base b : Nat} {mg mg1 : Option Nat} {l : List UInt8} {e : Ending} {w' : World} (h1 : Turn w w1 b mg) (hm : Mov w mg mg1) (h : WroteP w1 base b mg1 l e w') : WroteP w base b mg l e w' := by
  obtain ⟨he, mg', k1, k2, k3⟩ := h
  exact ⟨he, mg', k1, h1.trans k2 hm, hm.trans k3 h1.size⟩
set_option maxRecDepth 100000 in
theorem lay_any (base b : Nat) (mg : Option Nat) (L : List UInt8) (A : Option Addr) (n c : Nat) (l : List UInt8) (B : Nat) (w : World) (h : WrAt w base b mg L) (hA : Bs w B A n l) (hbase : base ≤ w.heap.size) (hn : L.length + n ≤ 100000000) :
    Calls Tryz.prog 197 #[.pointer (some ⟨b, 0, none⟩), .slice A n c] w (WroteP w base b mg (L ++ l)) := by
  have hml := h.mlt
  obtain ⟨hbb, A0, c0, hblk, hmg, hO⟩ := h
  have f0 : w.cell? ⟨b, 0, none⟩ = some (.slice A0 L.length c0) := cell_of_row w b 0 _ _ (0, 0) hblk
  have fz := frozen_of_row w b 0 _ _ hblk
  have hblt := lt_of_heap hblk
  have hlen := hA.len
  obtain ⟨k, hk⟩ : ∃ k, k = L.length := ⟨_, rfl⟩
  rw [← hk] at hO f0 hmg hblk hn
  have hbm : some b ≠ (Value.slice A0 k c0).ownBlock := by
    rw [hmg]
    intro e
    exact (hml b e.symm).2.2 rfl
  have HK := hide hk
  have HL := hide hlen
  have HM := hide hmg
  clear hk hlen hmg
  go_enter Tryz.func197, Tryz.ntmps197
  go_wp2_with (at_builtin; refine wp_bytes_mov _ rfl (.tmp 10) (.tmp 11) rfl base k _ L rfl hO _ A n c l rfl hA (by omega) hbase ?_)
  intro A' c' w1 hO1 hg1 hm1
  have hh1 := hg1.block b hblt hbm
  have f1 : w1.cell? ⟨b, 0, none⟩ = some (.slice A0 k c0) := (World.cell?_of_block hh1).trans f0
  have fz1 : w1.frozen? ⟨b, 0, none⟩ = false := (World.frozen?_of_block hh1).trans fz
  have hblk1 := hh1.trans hblk
  have hs1 := hg1.size
  clear f0 fz
  have hw : WroteP w base b mg (L ++ l) (.returned (.tuple #[])) (w1.setCell ⟨b, 0, none⟩ (.slice A' (k + n) c')) := by
    have e1 : (L ++ l).length = k + n := by rw [List.length_append, HL.out, HK.out]
    have hne : ∀ g, (Value.slice A' (k + n) c').ownBlock = some g → g ≠ b := by
      intro g hg e
      subst e
      rcases hO1.2 with ⟨hv, _⟩ | ⟨g', cap, cur, hv, _, hh, _⟩
      · rw [hv] at hg; cases hg
      · rw [hv] at hg
        injection hg with e
        simp only at e
        subst e
        rw [hblk1] at hh
        injection hh with hh
        injection hh with _ e2
        exact absurd e2 (by decide)
    rw [HM.out] at hm1
    refine ⟨rfl, _, ⟨hbb, A', c', ?_, rfl, ?_⟩, ?_, by rw [e1]; exact hm1⟩
    · have := heap_setCell_same w1 b 0 _ _ (.slice A' (k + n) c') hblk1
      rw [this, e1]
      rfl
    · rw [e1]
      refine ⟨hO1.1, ?_⟩
      rcases hO1.2 with h0 | ⟨g, cap, cur, hv, hb, hh, r⟩
      · exact .inl h0
      · refine .inr ⟨g, cap, cur, hv, hb, (Below.heap_setCell w1 _ _ g (hne g ?_)).trans hh, r⟩
        rw [hv]; rfl
    · refine Turn.set_ (Turn.of_grown hg1 fun i hi => ?_) rfl _
      rw [HM.out] at hi
      exact .inr (.inl hi.symm)
  have HW := hide hw
  clear hw hO1 hm1
  go_wp2
  first | go_end0 | refine bodyPost_ret (results_none rfl _ _ _) rfl ?_
  exact HW.out
def boolL (t : Bool) : List UInt8 := [if t then 1 else 0]
theorem boolL_form (t : Bool) : boolL t = formL (if t then 1 else 0) 1 := by cases t <;> decide
theorem putShort0 (x : Nat) (w : World) (hx : x < 18446744073709551616) : Calls Tryz.prog 198 #[.slice none 0 0, .int .u64 x] w (MakesB w (shortL x)) :=
  (putShort_any none 0 0 [] 0 x w Bs.none_ (Nat.zero_le _) (by decide) hx).mono fun _ _ ⟨he, ho, hb, _⟩ => by
    rw [Nat.zero_add] at he ho
    rw [List.nil_append] at ho
    exact ⟨_, _, he, ho, hb⟩
theorem put0 (t : Bool) (w : World) : Calls Tryz.prog 200 #[.slice none 0 0, .int .u64 (if t then 1 else 0), .int .i64 1] w (MakesB w (boolL t)) := by
  rw [boolL_form]
  cases t
  · exact (put_any none 0 0 [] 0 0 1 w Bs.none_ (Nat.zero_le _) (by decide) (by decide) (by decide)).mono fun _ _ ⟨he, ho, hb, _⟩ => ⟨_, _, he, ho, hb⟩
  · exact (put_any none 0 0 [] 0 1 1 w Bs.none_ (Nat.zero_le _) (by decide) (by decide) (by decide)).mono fun _ _ ⟨he, ho, hb, _⟩ => ⟨_, _, he, ho, hb⟩
theorem pput0 (i k : Nat) (w : World) (hi : i < 65536) (hk : k < 4294967296) : Calls Tryz.prog 199 #[.slice none 0 0, .agg #[.int .u16 i, .int .u32 k]] w (MakesB w (pidL i k)) := by
  have := ppid_any none 0 0 [] 0 i k w Bs.none_ (Nat.zero_le _) (by decide) hi hk
  rwa [List.nil_append] at this
set_option maxRecDepth 100000 in
theorem wnum_any (base b : Nat) (mg : Option Nat) (L : List UInt8) (x : Nat) (w : World) (h : WrAt w base b mg L) (hbase : base ≤ w.heap.size) (hn : L.length ≤ 10000000) (hx : x < 18446744073709551616) :
    Calls Tryz.prog 150 #[.pointer (some ⟨b, 0, none⟩), .int .u64 x] w (WroteP w base b mg (L ++ shortL x)) := by
  have c1 := fun W => putShort0 x W hx
  have h10 := (shortL_len x).2
  generalize shortL x = l at *
  go_enter Tryz.func150, Tryz.ntmps150
  go_wp2_with fail
  refine (c1 _).mono ?_
  rintro e w1 ⟨A, c, rfl, hO, hb⟩
  clear c1
  go_wp2_with fail
  have hs := hb.size
  refine (lay_any base b mg L A l.length c l _ w1 (h.later hb) hO.bs (by omega) (by omega)).mono ?_
  rintro e w2 ⟨rfl, hw⟩
  have HW := hide (WroteP.ahead hb ⟨rfl, hw⟩)
  clear hw hO
  go_wp2
  first | go_end0 | refine bodyPost_ret (results_none rfl _ _ _) rfl ?_
  exact HW.out
set_option maxRecDepth 100000 in
theorem wtruth_any (base b : Nat) (mg : Option Nat) (L : List UInt8) (t : Bool) (w : World) (h : WrAt w base b mg L) (hbase : base ≤ w.heap.size) (hn : L.length ≤ 10000000) :
    Calls Tryz.prog 153 #[.pointer (some ⟨b, 0, none⟩), .bool t] w (WroteP w base b mg (L ++ boolL t)) := by
  have c1 := fun W => put0 t W
  have h10 : (boolL t).length ≤ 1 := Nat.le_refl 1
  generalize boolL t = l at *
  cases t
  all_goals
    simp only [Bool.false_eq_true, if_false, if_true] at c1
    go_enter Tryz.func153, Tryz.ntmps153
    go_wp2_with fail
    refine (c1 _).mono ?_
    rintro e w1 ⟨A, c, rfl, hO, hb⟩
    clear c1
    go_wp2_with fail
    have hs := hb.size
    refine (lay_any base b mg L A l.length c l _ w1 (h.later hb) hO.bs (by omega) (by omega)).mono ?_
    rintro e w2 ⟨rfl, hw⟩
    have HW := hide (WroteP.ahead hb ⟨rfl, hw⟩)
    clear hw hO
    go_wp2
    first | go_end0 | refine bodyPost_ret (results_none rfl _ _ _) rfl ?_
    exact HW.out
set_option maxRecDepth 100000 in
theorem wpid_any (base b : Nat) (mg : Option Nat) (L : List UInt8) (i k : Nat) (w : World) (h : WrAt w base b mg L) (hbase : base ≤ w.heap.size) (hn : L.length ≤ 10000000) (hi : i < 65536) (hk : k < 4294967296) :
    Calls Tryz.prog 151 #[.pointer (some ⟨b, 0, none⟩), .agg #[.int .u16 i, .int .u32 k]] w (WroteP w base b mg (L ++ pidL i k)) := by
  have c1 := fun W => pput0 i k W hi hk
  have h10 := pidL_len i k
  generalize pidL i k = l at *
  have hb0 : Below w.heap.size w (w.alloc (.cells #[.int .u16 i, .int .u32 k] 44)) := (Below.refl _ _).alloc (Nat.le_refl _) _
  go_enter Tryz.func151, Tryz.ntmps151
  go_wp2_with fail
  refine (c1 _).mono ?_
  rintro e w1 ⟨A, c, rfl, hO, hb⟩
  have hb1 := hb0.trans (hb.mono hb0.size)
  clear c1 hb hb0
  go_wp2_with fail
  have hs := hb1.size
  refine (lay_any base b mg L A l.length c l _ w1 (h.later hb1) hO.bs (by omega) (by omega)).mono ?_
  rintro e w2 ⟨rfl, hw⟩
  have HW := hide (WroteP.ahead hb1 ⟨rfl, hw⟩)
  clear hw hO
  go_wp2
  first | go_end0 | refine bodyPost_ret (results_none rfl _ _ _) rfl ?_
  exact HW.out
theorem WrAt.grown {w w' : World} {base b : Nat} {mg : Option Nat} {v : Value} {L : List UInt8} (hw : WrAt w base b mg L) (hg : w.grownBy w' v.ownBlock) (ha : Apart v b mg) : WrAt w' base b mg L := by
  refine hw.keep (hg.block b hw.lt fun e => (ha b e.symm).1 rfl) fun g hm => hg.block g (hw.mlt g hm).2.1 fun e => (ha g e.symm).2 hm.symm
end Go.Proofs.YtjmkecaljkcoiaaGreatDoor
