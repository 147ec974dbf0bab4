/-
  A process's bytes: what is read of what was laid.
-/
import Derived.Test.YtjmkecaljkcoiaaDoorQPid3
import Derived.Test.YtjmkecaljkcoiaaDoorQMath1
import Derived.Test.YtjmkecaljkcoiaaDoorQPut1
import Derived.Test.YtjmkecaljkcoiaaDoorQShort1
import Derived.Test.YtjmkecaljkcoiaaDoorQOpenF
import Derived.Deep.Strs
import Derived.SizedLaws
import Derived.Test.YtjmkecaljkcoiaaDoorQPr
namespace Go.Proofs.YtjmkecaljkcoiaaDoor
open Go.RowKit
set_option linter.unusedVariables false

theorem pidG_bds (l : List UInt8) : (pidG l).1 < 65536 ∧ (pidG l).2.1 < 4294967296 ∧ (pidG l).2.2.1 ≤ l.length ∧ (pidG l).2.2.2 ≤ 5 := by
  have h1 := getF_bds l
  have h2 := getF_bds (l.drop (getF l).2.1)
  by_cases a1 : (getF l).2.2 = 0
  · by_cases a2 : (getF (l.drop (getF l).2.1)).2.2 = 0
    · by_cases a3 : (getF l).1 < 65536 ∧ (getF (l.drop (getF l).2.1)).1 < 4294967296
      · rw [pidG_4 a1 a2 a3]
        refine ⟨a3.1, a3.2, ?_, Nat.zero_le _⟩
        show (getF l).2.1 + (getF (l.drop (getF l).2.1)).2.1 ≤ l.length
        have := h2.2.1
        rw [List.length_drop] at this
        omega
      · rw [pidG_3 a1 a2 a3]; exact ⟨by decide, by decide, Nat.zero_le _, show 5 ≤ 5 by decide⟩
    · rw [pidG_2 a1 a2]; exact ⟨show 0 < 65536 by decide, show 0 < 4294967296 by decide, Nat.zero_le _, h2.2.2.2⟩
  · rw [pidG_1 a1]; exact ⟨show 0 < 65536 by decide, show 0 < 4294967296 by decide, Nat.zero_le _, h1.2.2.2⟩
/-- A process's bytes are read as it, whatever stands behind. -/
theorem pidG_put (i c : Nat) (t : List UInt8) (hi : i < 65536) (hc : c < 4294967296) : pidG (pidL i c ++ t) = (i, c, (pidL i c).length, 0) := by
  have e1 : getF (pidL i c ++ t) = (i, (shortL i).length, 0) := by
    rw [pidL, List.append_assoc]; exact getF_short i _ (by omega)
  have e2 : (pidL i c ++ t).drop (shortL i).length = shortL c ++ t := by
    rw [pidL, List.append_assoc]; simp
  have e3 : getF (shortL c ++ t) = (c, (shortL c).length, 0) := getF_short c _ (by omega)
  have h := pidG_4 (l := pidL i c ++ t)
  rw [e1] at h
  simp only at h
  rw [e2, e3] at h
  simp only at h
  rw [h trivial trivial ⟨hi, hc⟩]
  simp [pidL]
theorem pidL_len (i c : Nat) : (pidL i c).length ≤ 20 := by
  rw [pidL, List.length_append]; have := (shortL_len i).2; have := (shortL_len c).2; omega
theorem pidL_len2 (i c : Nat) : 2 ≤ (pidL i c).length := by
  rw [pidL, List.length_append]; have := (shortL_len i).1; have := (shortL_len c).1; omega
end Go.Proofs.YtjmkecaljkcoiaaDoor
namespace Go.Proofs.YtjmkecaljkcoiaaDoor
open Go.RowKit
set_option linter.unusedVariables false
set_option linter.unusedSimpArgs false

/-- Block b is a Writer that has laid the bytes l, in a row of the call's own; mg is the row's block. -/
def WrAt (w : World) (base b : Nat) (mg : Option Nat) (l : List UInt8) : Prop :=
  base ≤ b ∧ ∃ A c, w.heap[b]? = some (.cells #[.slice A l.length c] 66 (0, 0)) ∧ (Value.slice A l.length c).ownBlock = mg ∧ OwnB w base (.slice A l.length c) l.length l
section
variable {w w' : World} {base b : Nat} {mg : Option Nat} {l : List UInt8}
theorem WrAt.lt (h : WrAt w base b mg l) : b < w.heap.size := by
  obtain ⟨_, A, c, h, _⟩ := h
  exact lt_of_heap h
theorem WrAt.mlt (h : WrAt w base b mg l) : ∀ g, mg = some g → base ≤ g ∧ g < w.heap.size ∧ g ≠ b := by
  obtain ⟨_, A, c, h1, h2, h3⟩ := h
  intro g hg
  have hlt := h3.lt g (by rw [h2]; exact hg)
  refine ⟨hlt.1, hlt.2, fun e => ?_⟩
  subst e
  rcases h3.2 with ⟨hv, _⟩ | ⟨g', cap, cur, hv, _, hh, _⟩
  · rw [hv] at h2
    rw [← h2] at hg
    cases hg
  · rw [hv] at h2
    rw [← h2] at hg
    injection hg with e
    simp only at e
    subst e
    rw [h1] at hh
    injection hh with hh
    injection hh with _ e2
    exact absurd e2 (by decide)
theorem WrAt.keep (h : WrAt w base b mg l) (h1 : w'.heap[b]? = w.heap[b]?) (h2 : ∀ g, mg = some g → w'.heap[g]? = w.heap[g]?) : WrAt w' base b mg l := by
  obtain ⟨hbb, A, c, k1, k2, k3⟩ := h
  refine ⟨hbb, A, c, h1.trans k1, k2, k3.1, ?_⟩
  rcases k3.2 with h0 | ⟨g, cap, cur, hv, hb, hh, r⟩
  · exact .inl h0
  · refine .inr ⟨g, cap, cur, hv, hb, (h2 g ?_).trans hh, r⟩
    rw [← k2, hv]
    rfl
theorem WrAt.below {B : Nat} (h : WrAt w base b mg l) (hb : Below B w w') (hB : b < B) (hm : ∀ g, mg = some g → g < B) : WrAt w' base b mg l := h.keep (hb.block b hB) fun g hg => hb.block g (hm g hg)
theorem WrAt.later (h : WrAt w base b mg l) (hb : Below w.heap.size w w') : WrAt w' base b mg l := h.below hb h.lt fun g hg => (h.mlt g hg).2.1
/-- What lies below is as it was. -/
theorem WrAt.turned (h : WrAt w base b mg l) (ht : Turn w w' b mg) (hs : base ≤ w.heap.size) : Below base w w' := ht.below hs h.1 fun g hg => (h.mlt g hg).1
theorem WrAt.alloc (h : WrAt w base b mg l) (o : Obj) : WrAt (w.alloc o) base b mg l := h.later ((Below.refl _ _).alloc (Nat.le_refl _) o)

theorem WrAt.new (w : World) (base : Nat) (hb : base ≤ w.heap.size) : WrAt (w.alloc (.cells #[.slice none 0 0] 66)) base w.heap.size none [] := ⟨hb, none, 0, heap_alloc_new w _, rfl, OwnB.nil_ _ _⟩
end
/-- A Writer that was turned, and holds l now. -/
def WroteP (w : World) (base b : Nat) (mg : Option Nat) (l : List UInt8) (e : Ending) (w' : World) : Prop :=
  e = .returned (.tuple #[]) ∧ ∃ mg', WrAt w' base b mg' l ∧ Turn w w' b mg ∧ Mov w mg mg'
theorem WroteP.ahead {w w1 : World} {base b : Nat} {mg : Option Nat} {l : List UInt8} {e : Ending} {w' : World} (hb : Below w.heap.size w w1) (h : WroteP w1 base b mg l e w') : WroteP w base b mg l e w' := by
  obtain ⟨he, mg', h1, h2, h3⟩ := h
  refine ⟨he, mg', h1, Turn.ahead hb h2, ?_⟩
  rcases h3 with rfl | ⟨g, rfl, hg⟩
  · exact .inl rfl
  · exact .inr ⟨g, rfl, Nat.le_trans hb.size hg⟩
theorem WroteP.two {w w1 : World} {base b : Nat} {mg mg1 : Option Nat} {l : List UInt8} {e : Ending} {w' : World} (h1 : Turn w w1 b mg) (hm : Mov w mg mg1) (h : WroteP w1 base b mg1 l e w') : WroteP w base b mg l e w' := by
  obtain ⟨he, mg', k1, k2, k3⟩ := h
  exact ⟨he, mg', k1, h1.trans k2 hm, hm.trans k3 h1.size⟩

set_option maxRecDepth 100000 in
theorem lay_any (base b : Nat) (mg : Option Nat) (L : List UInt8) (A : Option Addr) (n c : Nat) (l : List UInt8) (B : Nat) (w : World) (h : WrAt w base b mg L) (hA : Bs w B A n l) (hbase : base ≤ w.heap.size) (hn : L.length + n ≤ 100000000) :
    Calls Tryd.prog 102 #[.pointer (some ⟨b, 0, none⟩), .slice A n c] w (WroteP w base b mg (L ++ l)) := by
  have hml := h.mlt
  obtain ⟨hbb, A0, c0, hblk, hmg, hO⟩ := h
  have f0 : w.cell? ⟨b, 0, none⟩ = some (.slice A0 L.length c0) := cell_of_row w b 0 _ _ (0, 0) hblk
  have fz := frozen_of_row w b 0 _ _ hblk
  have hblt := lt_of_heap hblk
  have hlen := hA.len
  obtain ⟨k, hk⟩ : ∃ k, k = L.length := ⟨_, rfl⟩
  rw [← hk] at hO f0 hmg hblk hn
  have hbm : some b ≠ (Value.slice A0 k c0).ownBlock := by
    rw [hmg]
    intro e
    exact (hml b e.symm).2.2 rfl
  have HK := hide hk
  have HL := hide hlen
  have HM := hide hmg
  clear hk hlen hmg
  go_enter Tryd.func102, Tryd.ntmps102
  go_wp2_with (at_builtin; refine wp_bytes_mov _ rfl (.tmp 10) (.tmp 11) rfl base k _ L rfl hO _ A n c l rfl hA (by omega) hbase ?_)
  intro A' c' w1 hO1 hg1 hm1
  have hh1 := hg1.block b hblt hbm
  have f1 : w1.cell? ⟨b, 0, none⟩ = some (.slice A0 k c0) := (World.cell?_of_block hh1).trans f0
  have fz1 : w1.frozen? ⟨b, 0, none⟩ = false := (World.frozen?_of_block hh1).trans fz
  have hblk1 := hh1.trans hblk
  have hs1 := hg1.size
  clear f0 fz
  have hw : WroteP w base b mg (L ++ l) (.returned (.tuple #[])) (w1.setCell ⟨b, 0, none⟩ (.slice A' (k + n) c')) := by
    have e1 : (L ++ l).length = k + n := by rw [List.length_append, HL.out, HK.out]
    have hne : ∀ g, (Value.slice A' (k + n) c').ownBlock = some g → g ≠ b := by
      intro g hg e
      subst e
      rcases hO1.2 with ⟨hv, _⟩ | ⟨g', cap, cur, hv, _, hh, _⟩
      · rw [hv] at hg; cases hg
      · rw [hv] at hg
        injection hg with e
        simp only at e
        subst e
        rw [hblk1] at hh
        injection hh with hh
        injection hh with _ e2
        exact absurd e2 (by decide)
    rw [HM.out] at hm1
    refine ⟨rfl, _, ⟨hbb, A', c', ?_, rfl, ?_⟩, ?_, by rw [e1]; exact hm1⟩
    · have := heap_setCell_same w1 b 0 _ _ (.slice A' (k + n) c') hblk1
      rw [this, e1]
      rfl
    · rw [e1]
      refine ⟨hO1.1, ?_⟩
      rcases hO1.2 with h0 | ⟨g, cap, cur, hv, hb, hh, r⟩
      · exact .inl h0
      · refine .inr ⟨g, cap, cur, hv, hb, (Below.heap_setCell w1 _ _ g (hne g ?_)).trans hh, r⟩
        rw [hv]; rfl
    · refine Turn.set_ (Turn.of_grown hg1 fun i hi => ?_) rfl _
      rw [HM.out] at hi
      exact .inr (.inl hi.symm)
  have HW := hide hw
  clear hw hO1 hm1
  go_wp2
  first | go_end0 | refine bodyPost_ret (results_none rfl _ _ _) rfl ?_
  exact HW.out
theorem lay_none (A : Option Addr) (n c : Nat) (w : World) :
    Calls Tryd.prog 102 #[.pointer none, .slice A n c] w fun e w' => e = .returned (.tuple #[]) ∧ w = w' := by
  go_enter Tryd.func102, Tryd.ntmps102
  go_wp2
  first | go_end0 | refine bodyPost_ret (results_none rfl _ _ _) rfl ?_
  exact ⟨rfl, rfl⟩
/-- A truth's form. -/
def boolL (t : Bool) : List UInt8 := [if t then 1 else 0]
theorem boolL_form (t : Bool) : boolL t = formL (if t then 1 else 0) 1 := by cases t <;> decide
/-- The forms that are laid, in rows of their own. -/
theorem putShort0 (x : Nat) (w : World) (hx : x < 18446744073709551616) : Calls Tryd.prog 103 #[.slice none 0 0, .int .u64 (x : Int)] w (MakesB w (shortL x)) :=
  (putShort_any none 0 0 [] 0 x w Bs.none_ (Nat.zero_le _) (by decide) hx).mono fun _ _ ⟨he, ho, hb, _⟩ => by
    rw [Nat.zero_add] at he ho
    rw [List.nil_append] at ho
    exact ⟨_, _, he, ho, hb⟩
theorem put0 (t : Bool) (w : World) : Calls Tryd.prog 105 #[.slice none 0 0, .int .u64 (if t then 1 else 0), .int .i64 1] w (MakesB w (boolL t)) := by
  rw [boolL_form]
  cases t
  · exact (put_any none 0 0 [] 0 0 1 w Bs.none_ (Nat.zero_le _) (by decide) (by decide) (by decide)).mono fun _ _ ⟨he, ho, hb, _⟩ => ⟨_, _, he, ho, hb⟩
  · exact (put_any none 0 0 [] 0 1 1 w Bs.none_ (Nat.zero_le _) (by decide) (by decide) (by decide)).mono fun _ _ ⟨he, ho, hb, _⟩ => ⟨_, _, he, ho, hb⟩
theorem pput0 (i k : Nat) (w : World) (hi : i < 65536) (hk : k < 4294967296) : Calls Tryd.prog 104 #[.slice none 0 0, .agg #[.int .u16 (i : Int), .int .u32 (k : Int)]] w (MakesB w (pidL i k)) := by
  have := ppid_any none 0 0 [] 0 i k w Bs.none_ (Nat.zero_le _) (by decide) hi hk
  rwa [List.nil_append] at this
set_option maxRecDepth 100000 in
theorem wnum_any (base b : Nat) (mg : Option Nat) (L : List UInt8) (x : Nat) (w : World) (h : WrAt w base b mg L) (hbase : base ≤ w.heap.size) (hn : L.length ≤ 10000000) (hx : x < 18446744073709551616) :
    Calls Tryd.prog 61 #[.pointer (some ⟨b, 0, none⟩), .int .u64 (x : Int)] w (WroteP w base b mg (L ++ shortL x)) := by
  have c1 := fun W => putShort0 x W hx
  have h10 := (shortL_len x).2
  generalize shortL x = l at *
  go_enter Tryd.func61, Tryd.ntmps61
  go_wp2_with fail
  refine (c1 _).mono ?_
  rintro e w1 ⟨A, c, rfl, hO, hb⟩
  clear c1
  go_wp2_with fail
  have hs := hb.size
  refine (lay_any base b mg L A l.length c l _ w1 (h.later hb) hO.bs (by omega) (by omega)).mono ?_
  rintro e w2 ⟨rfl, hw⟩
  have HW := hide (WroteP.ahead hb ⟨rfl, hw⟩)
  clear hw hO
  go_wp2
  first | go_end0 | refine bodyPost_ret (results_none rfl _ _ _) rfl ?_
  exact HW.out
set_option maxRecDepth 100000 in
theorem wnum_none (x : Nat) (w : World) (hx : x < 18446744073709551616) :
    Calls Tryd.prog 61 #[.pointer none, .int .u64 (x : Int)] w fun e w' => e = .returned (.tuple #[]) ∧ Below w.heap.size w w' := by
  have c1 := fun W => putShort0 x W hx
  have h10 := (shortL_len x).2
  generalize shortL x = l at *
  go_enter Tryd.func61, Tryd.ntmps61
  go_wp2_with fail
  refine (c1 _).mono ?_
  rintro e w1 ⟨A, c, rfl, hO, hb⟩
  clear c1
  go_wp2_with fail
  refine (lay_none _ _ _ w1).mono ?_
  rintro e w2 ⟨rfl, rfl⟩
  go_wp2
  first | go_end0 | refine bodyPost_ret (results_none rfl _ _ _) rfl ?_
  exact ⟨rfl, hb⟩
set_option maxRecDepth 100000 in
theorem wtruth_any (base b : Nat) (mg : Option Nat) (L : List UInt8) (t : Bool) (w : World) (h : WrAt w base b mg L) (hbase : base ≤ w.heap.size) (hn : L.length ≤ 10000000) :
    Calls Tryd.prog 68 #[.pointer (some ⟨b, 0, none⟩), .bool t] w (WroteP w base b mg (L ++ boolL t)) := by
  have c1 := fun W => put0 t W
  have h10 : (boolL t).length ≤ 1 := Nat.le_refl 1
  generalize boolL t = l at *
  cases t
  all_goals
    simp only [Bool.false_eq_true, if_false, if_true] at c1
    go_enter Tryd.func68, Tryd.ntmps68
    go_wp2_with fail
    refine (c1 _).mono ?_
    rintro e w1 ⟨A, c, rfl, hO, hb⟩
    clear c1
    go_wp2_with fail
    have hs := hb.size
    refine (lay_any base b mg L A l.length c l _ w1 (h.later hb) hO.bs (by omega) (by omega)).mono ?_
    rintro e w2 ⟨rfl, hw⟩
    have HW := hide (WroteP.ahead hb ⟨rfl, hw⟩)
    clear hw hO
    go_wp2
    first | go_end0 | refine bodyPost_ret (results_none rfl _ _ _) rfl ?_
    exact HW.out
set_option maxRecDepth 100000 in
theorem wtruth_none (t : Bool) (w : World) :
    Calls Tryd.prog 68 #[.pointer none, .bool t] w fun e w' => e = .returned (.tuple #[]) ∧ Below w.heap.size w w' := by
  have c1 := fun W => put0 t W
  have h10 : (boolL t).length ≤ 1 := Nat.le_refl 1
  generalize boolL t = l at *
  cases t
  all_goals
    simp only [Bool.false_eq_true, if_false, if_true] at c1
    go_enter Tryd.func68, Tryd.ntmps68
    go_wp2_with fail
    refine (c1 _).mono ?_
    rintro e w1 ⟨A, c, rfl, hO, hb⟩
    clear c1
    go_wp2_with fail
    refine (lay_none _ _ _ w1).mono ?_
    rintro e w2 ⟨rfl, rfl⟩
    go_wp2
    first | go_end0 | refine bodyPost_ret (results_none rfl _ _ _) rfl ?_
    exact ⟨rfl, hb⟩
set_option maxRecDepth 100000 in
theorem wpid_any (base b : Nat) (mg : Option Nat) (L : List UInt8) (i k : Nat) (w : World) (h : WrAt w base b mg L) (hbase : base ≤ w.heap.size) (hn : L.length ≤ 10000000) (hi : i < 65536) (hk : k < 4294967296) :
    Calls Tryd.prog 66 #[.pointer (some ⟨b, 0, none⟩), .agg #[.int .u16 (i : Int), .int .u32 (k : Int)]] w (WroteP w base b mg (L ++ pidL i k)) := by
  have c1 := fun W => pput0 i k W hi hk
  have h10 := pidL_len i k
  generalize pidL i k = l at *
  have hb0 : Below w.heap.size w (w.alloc (.cells #[.int .u16 (i : Int), .int .u32 (k : Int)] 25)) := (Below.refl _ _).alloc (Nat.le_refl _) _
  go_enter Tryd.func66, Tryd.ntmps66
  go_wp2_with fail
  refine (c1 _).mono ?_
  rintro e w1 ⟨A, c, rfl, hO, hb⟩
  have hb1 := hb0.trans (hb.mono hb0.size)
  clear c1 hb hb0
  go_wp2_with fail
  have hs := hb1.size
  refine (lay_any base b mg L A l.length c l _ w1 (h.later hb1) hO.bs (by omega) (by omega)).mono ?_
  rintro e w2 ⟨rfl, hw⟩
  have HW := hide (WroteP.ahead hb1 ⟨rfl, hw⟩)
  clear hw hO
  go_wp2
  first | go_end0 | refine bodyPost_ret (results_none rfl _ _ _) rfl ?_
  exact HW.out
set_option maxRecDepth 100000 in
theorem wpid_none (i k : Nat) (w : World) (hi : i < 65536) (hk : k < 4294967296) :
    Calls Tryd.prog 66 #[.pointer none, .agg #[.int .u16 (i : Int), .int .u32 (k : Int)]] w fun e w' => e = .returned (.tuple #[]) ∧ Below w.heap.size w w' := by
  have c1 := fun W => pput0 i k W hi hk
  have h10 := pidL_len i k
  generalize pidL i k = l at *
  have hb0 : Below w.heap.size w (w.alloc (.cells #[.int .u16 (i : Int), .int .u32 (k : Int)] 25)) := (Below.refl _ _).alloc (Nat.le_refl _) _
  go_enter Tryd.func66, Tryd.ntmps66
  go_wp2_with fail
  refine (c1 _).mono ?_
  rintro e w1 ⟨A, c, rfl, hO, hb⟩
  have hb1 := hb0.trans (hb.mono hb0.size)
  clear c1 hb hb0
  go_wp2_with fail
  refine (lay_none _ _ _ w1).mono ?_
  rintro e w2 ⟨rfl, rfl⟩
  go_wp2
  first | go_end0 | refine bodyPost_ret (results_none rfl _ _ _) rfl ?_
  exact ⟨rfl, hb1⟩
theorem apart_grown {w : World} {base b : Nat} {mg : Option Nat} {v v' : Value} {L : List UInt8} (ha : Apart v b mg) (hm : Mov w v.ownBlock v'.ownBlock) (hw : WrAt w base b mg L) : Apart v' b mg := by
  intro g hg
  rcases hm with h | ⟨g', h, hg'⟩
  · exact ha g (by rw [← h]; exact hg)
  · rw [h] at hg
    injection hg with e
    subst e
    have h1 := hw.lt
    refine ⟨by omega, fun e => ?_⟩
    have := (hw.mlt g' e.symm).2.1
    omega
theorem WrAt.grown {w w' : World} {base b : Nat} {mg : Option Nat} {v : Value} {L : List UInt8} (hw : WrAt w base b mg L) (hg : w.grownBy w' v.ownBlock) (ha : Apart v b mg) : WrAt w' base b mg L := by
  refine hw.keep (hg.block b hw.lt fun e => (ha b e.symm).1 rfl) fun g hm => hg.block g (hw.mlt g hm).2.1 fun e => (ha g e.symm).2 hm.symm
end Go.Proofs.YtjmkecaljkcoiaaDoor
namespace Go.Proofs.YtjmkecaljkcoiaaDoor
open Go.RowKit
set_option linter.unusedVariables false
set_option linter.unusedSimpArgs false

/-- A place below n, picked by any number. -/
def pickF (a n : Int) : Int := if n < 1 then 0 else a % n
theorem pickF_bd {a n : Int} (h : 1 ≤ n) : 0 ≤ pickF a n ∧ pickF a n < n := by
  unfold pickF
  rw [if_neg (by omega)]
  exact ⟨Int.emod_nonneg _ (by omega), Int.emod_lt_of_pos _ (by omega)⟩
theorem tmod_emod (a n : Int) : a.tmod n % n = a % n := by
  have h := Int.mul_tdiv_add_tmod a n
  conv => rhs; rw [← h]
  rw [Int.add_comm, Int.add_mul_emod_self_left]
theorem pickF_hi {a n : Int} (h : 1 ≤ n) : 0 ≤ a.tmod n → pickF a n = a.tmod n := by
  intro h0
  unfold pickF
  rw [if_neg (by omega), ← tmod_emod]
  exact Int.emod_eq_of_lt h0 (Int.tmod_lt_of_pos a (by omega))
theorem pickF_lo {a n : Int} (h : 1 ≤ n) : a.tmod n < 0 → pickF a n = a.tmod n + n := by
  intro h0
  unfold pickF
  rw [if_neg (by omega), ← tmod_emod, ← Int.add_emod_right]
  have := Int.lt_tmod_of_pos a (show 0 < n by omega)
  exact Int.emod_eq_of_lt (by omega) (by omega)
theorem pick_any (a n : Int) (w : World) (ha0 : -9223372036854775808 ≤ a) (ha : a ≤ 9223372036854775807) (h1 : 1 ≤ n) (h2 : n ≤ 4611686018427387904) :
    Calls Tryd.prog 17 #[.int .i64 a, .int .i64 n] w fun e w' => e = .returned (.int .i64 (pickF a n)) ∧ w = w' := by
  obtain ⟨r, hr⟩ : ∃ r, r = a.tmod n := ⟨_, rfl⟩
  have e1 := pickF_hi (a := a) h1
  have e2 := pickF_lo (a := a) h1
  have e3 := Int.tmod_lt_of_pos a (show 0 < n by omega)
  have e4 := Int.lt_tmod_of_pos a (show 0 < n by omega)
  rw [← hr] at e1 e2 e3 e4
  have HR := hide hr
  have E1 := hide e1
  have E2 := hide e2
  clear hr e1 e2
  go_enter Tryd.func17, Tryd.ntmps17
  go_wp2
  all_goals go_ret
  all_goals rw [← HR.out] at *
  · exact ⟨ret_int (by rw [E2.out (by assumption)]; unfold wrap64; omega), rfl⟩
  · exact ⟨ret_int (E1.out (by assumption)).symm, rfl⟩
end Go.Proofs.YtjmkecaljkcoiaaDoor
namespace Go.Proofs.YtjmkecaljkcoiaaDoor
open Go.ChangeShapes Go.WideShapes Go.RowKit
set_option linter.unusedVariables false
set_option linter.unusedSimpArgs false

/-- A thing. -/
structure Th where
  kind : Int
  n : Nat
  t : Bool
  r : Nat
  p : Pr
  A : Option Addr
  m : Nat
  c : Nat
  l : List UInt8
  B : Option Addr
  d : Nat
  e : Nat
  q : List Pr
  most : Int
def thC (x : Th) : List Value := [.int .i64 x.kind, .int .u64 (x.n : Int), .bool x.t, .int .u32 (x.r : Int), .int .u16 (x.p.i : Int), .int .u32 (x.p.k : Int), .slice x.A x.m x.c, .slice x.B x.d x.e, .int .i64 x.most]
theorem thOk : EncOk thC 9 := ⟨fun _ => rfl, fun p v hv => by simp [thC] at hv; rcases hv with rfl | rfl | rfl | rfl | rfl | rfl | rfl | rfl | rfl <;> rfl, by decide⟩
/-- What is known of a thing that came in: its bytes and processes lie below block B0. -/
structure ThIn (w : World) (B0 : Nat) (x : Th) : Prop where
  k0 : -9223372036854775808 ≤ x.kind
  k1 : x.kind ≤ 9223372036854775807
  hn : x.n < 18446744073709551616
  hr : x.r < 4294967296
  bs : Bs w B0 x.A x.m x.l
  mc : x.m ≤ x.c
  room : x.c ≤ maxLen
  es : Es prC w B0 x.B x.d x.q
  de : x.d ≤ x.e
  room2 : x.e ≤ maxLen
  o0 : -9223372036854775808 ≤ x.most
  o1 : x.most ≤ 9223372036854775807
theorem ThIn.below {w w' : World} {B0 : Nat} {x : Th} (h : ThIn w B0 x) (hb : Below B0 w w') : ThIn w' B0 x := ⟨h.k0, h.k1, h.hn, h.hr, h.bs.below hb, h.mc, h.room, h.es.below hb, h.de, h.room2, h.o0, h.o1⟩
/-- Things that came in. -/
def Things0 (w : World) (A : Option Addr) (n c : Nat) (l : List Th) : Prop := Es thC w w.heap.size A n l ∧ n ≤ c ∧ c ≤ maxLen ∧ ∀ a ∈ l, ThIn w w.heap.size a
theorem cells_bool : Tryd.prog.cellsOf 4 = 1 := by kernel_rfl
theorem cells_pids : Tryd.prog.cellsOf 30 = 1 := by kernel_rfl
section
variable {H : Type} {enc : TypeId × Value → H} {w : World} {base : Nat} {spare : Nat → Bool} {held : Bool}
theorem trod_struct7 {P : Program} {t : TypeId} {f0 f1 f2 f3 f4 f5 f6 : Field} {fuel : Nat} {cs : List Value} {x : DataW H × List MemPlace} (ht : P.underlying t = some (.struct #[f0, f1, f2, f3, f4, f5, f6])) (h : DataW.trod enc P w base spare held fuel t cs = some x) :
    ∃ y0 y1 y2 y3 y4 y5 y6 n, cs.length = P.cellsOf t ∧ DataW.trod enc P w base spare held n f0.type ((cs.drop f0.offset).take (P.cellsOf f0.type)) = some y0 ∧
      DataW.trod enc P w base spare held n f1.type ((cs.drop f1.offset).take (P.cellsOf f1.type)) = some y1 ∧ DataW.trod enc P w base spare held n f2.type ((cs.drop f2.offset).take (P.cellsOf f2.type)) = some y2 ∧
      DataW.trod enc P w base spare held n f3.type ((cs.drop f3.offset).take (P.cellsOf f3.type)) = some y3 ∧ DataW.trod enc P w base spare held n f4.type ((cs.drop f4.offset).take (P.cellsOf f4.type)) = some y4 ∧
      DataW.trod enc P w base spare held n f5.type ((cs.drop f5.offset).take (P.cellsOf f5.type)) = some y5 ∧ DataW.trod enc P w base spare held n f6.type ((cs.drop f6.offset).take (P.cellsOf f6.type)) = some y6 := by
  obtain ⟨xs, n, _, rfl, hl, hlen, hf⟩ := DataW.trod_struct ht h
  match xs, hlen with
  | [y0, y1, y2, y3, y4, y5, y6], _ => exact ⟨y0, y1, y2, y3, y4, y5, y6, n, hl, by simpa using hf 0 f0 rfl, by simpa using hf 1 f1 rfl, by simpa using hf 2 f2 rfl, by simpa using hf 3 f3 rfl, by simpa using hf 4 f4 rfl, by simpa using hf 5 f5 rfl, by simpa using hf 6 f6 rfl⟩
theorem bytes_u8 : Tryd.prog.bytesOf 5 = 1 := by kernel_rfl
end
theorem things_row {w : World} {cs : List Value} {A : Option Addr} {n c : Nat} (h : cs = [.slice none 0 0] ∨ ∃ (a : Addr) (len cap : Nat), cs = [.slice (some a) len cap] ∧ len ≤ cap ∧ cap ≤ maxLen ∧
      ∀ i, i < len → ∃ y : Th, ThIn w w.heap.size y ∧ ∀ j v, (thC y)[j]? = some v → w.cell? (a.add (i * 9 + j)) = some v) (he : (Value.slice A n c).cells.toList = cs) : ∃ l, Things0 w A n c l := by
  simp [Value.cells] at he
  subst he
  rcases h with h | ⟨a, len, cap, h, hl, hm, hc⟩
  · simp only [List.cons.injEq, and_true, Value.slice.injEq] at h
    obtain ⟨rfl, rfl, rfl⟩ := h
    exact ⟨[], Es.none_, Nat.le_refl _, by decide, fun a ha => by simp at ha⟩
  · simp only [List.cons.injEq, and_true, Value.slice.injEq] at h
    obtain ⟨rfl, rfl, rfl⟩ := h
    obtain ⟨l, h1, h2, h3⟩ := rows_of thOk n hc
    refine ⟨l, ⟨h1, fun hn => ⟨a, rfl, ?_, h3⟩⟩, hl, hm, h2⟩
    obtain ⟨y, _, hy⟩ := hc 0 hn
    have := World.block_lt_of_cell? w _ (hy 0 _ rfl)
    rwa [block_of_add] at this
/-- A thing's nine cells, as the walk spells them. -/
theorem th_at {w : World} {ad : Addr} {j : Nat} {q : Th} (hc : ∀ i v, (thC q)[i]? = some v → w.cell? (ad.add (j * 9 + i)) = some v) :
    w.cell? (ad.add (j * 9)) = some (.int .i64 q.kind) ∧ w.cell? ⟨(ad.add (j * 9)).block, (ad.add (j * 9)).off + 1, none⟩ = some (.int .u64 (q.n : Int)) ∧
    w.cell? ⟨(ad.add (j * 9)).block, (ad.add (j * 9)).off + 2, none⟩ = some (.bool q.t) ∧ w.cell? ⟨(ad.add (j * 9)).block, (ad.add (j * 9)).off + 3, none⟩ = some (.int .u32 (q.r : Int)) ∧
    w.cell? ⟨(ad.add (j * 9)).block, (ad.add (j * 9)).off + 4, none⟩ = some (.int .u16 (q.p.i : Int)) ∧ w.cell? ⟨(ad.add (j * 9)).block, (ad.add (j * 9)).off + 5, none⟩ = some (.int .u32 (q.p.k : Int)) ∧
    w.cell? ⟨(ad.add (j * 9)).block, (ad.add (j * 9)).off + 6, none⟩ = some (.slice q.A q.m q.c) ∧ w.cell? ⟨(ad.add (j * 9)).block, (ad.add (j * 9)).off + 7, none⟩ = some (.slice q.B q.d q.e) ∧
    w.cell? ⟨(ad.add (j * 9)).block, (ad.add (j * 9)).off + 8, none⟩ = some (.int .i64 q.most) := by
  have key : ∀ i v, (thC q)[i + 1]? = some v → w.cell? ⟨(ad.add (j * 9)).block, (ad.add (j * 9)).off + (i + 1), none⟩ = some v := by
    intro i v hv
    have h := hc (i + 1) v hv
    rw [← add_of_add] at h
    exact h
  exact ⟨hc 0 _ rfl, key 0 _ rfl, key 1 _ rfl, key 2 _ rfl, key 3 _ rfl, key 4 _ rfl, key 5 _ rfl, key 6 _ rfl, key 7 _ rfl⟩
/-- The forms of processes. -/
def pidsL (l : List Pr) : List UInt8 := l.flatMap fun p => pidL p.i p.k
theorem pidsL_snoc (l : List Pr) (p : Pr) : pidsL (l ++ [p]) = pidsL l ++ pidL p.i p.k := by simp [pidsL]
theorem pidsL_cons (l : List Pr) (p : Pr) : pidsL (p :: l) = pidL p.i p.k ++ pidsL l := by simp [pidsL]
theorem pidsL_take {l : List Pr} {j : Nat} (h : j < l.length) : pidsL (l.take (j + 1)) = pidsL (l.take j) ++ pidL l[j].i l[j].k := by
  rw [List.take_succ_eq_append_getElem h, pidsL_snoc]
theorem pidsL_len (l : List Pr) : (pidsL l).length ≤ 20 * l.length := by
  induction l with
  | nil => simp [pidsL]
  | cons p l ih => rw [pidsL_cons, List.length_append, List.length_cons]; have := pidL_len p.i p.k; omega
/-! ### great -/
/-- Are the first j things small? -/
def Small (l : List Th) (j : Nat) : Prop := ∀ a ∈ l.take j, a.m ≤ 300 ∧ a.d ≤ 60
theorem Small.step {l : List Th} {j : Nat} (h : Small l j) (hj : j < l.length) (ha : l[j].m ≤ 300 ∧ l[j].d ≤ 60) : Small l (j + 1) := by
  unfold Small at *
  rw [List.take_succ_eq_append_getElem hj]
  intro a h'
  rw [List.mem_append, List.mem_singleton] at h'
  exact h'.elim (h a) (fun e => e ▸ ha)
/-- What great answers: if not, all that is looked at is small. -/
def GreatP (w : World) (l : List Th) (e : Ending) (w' : World) : Prop := ∃ b : Bool, e = .returned (.bool b) ∧ (b = false → Small l 60) ∧ w = w'
end Go.Proofs.YtjmkecaljkcoiaaDoor
