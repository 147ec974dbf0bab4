import Derived.Lib.LaidTab
import Derived.Test.YtjmkecaljkcoiaaDoorQOpenMg
import Derived.Test.YtjmkecaljkcoiaaDoorRows
import Derived.OpenShut
import Derived.LaidByTextLater
namespace Go.Proofs.YtjmkecaljkcoiaaDoor
open Go.RowKit Go.Maps
set_option linter.unusedVariables false
set_option linter.unusedSimpArgs false
def Kinds (w : World) : Prop := ∀ i, i < 15 → w.cell? ⟨0, i * 2 + 1, none⟩ = some (.int .u16 ((tabM i : Nat) : Int))
theorem Kinds.lt {w : World} (h : Kinds w) : 0 < w.heap.size := World.block_lt_of_cell? w _ (h 0 (by decide))
theorem Kinds.later {w w' : World} (h : Kinds w) (hb : Below w.heap.size w w') : Kinds w' := fun i hi => (hb.cell (p := ⟨0, i * 2 + 1, none⟩) h.lt).trans (h i hi)
theorem Kinds.turn {w w' : World} {b : Nat} {mg : Option Nat} (h : Kinds w) (ht : Turn w w' b mg) (h1 : 0 ≠ b) (h2 : some 0 ≠ mg) : Kinds w' := fun i hi => ht.cell (h i hi) h1 h2
set_option maxRecDepth 100000 in
theorem fwith_any (n k : Nat) (w : World) (t : Bool) (hn : n < 65536) (hk : k < 65536) (ht : t = (n &&& k != 0)) :
    Calls Tryd.prog 65 #[.int .u16 (n : Int), .int .u16 (k : Int)] w fun e w' => e = .returned (.bool t) ∧ w = w' := by
  have e1 := u16_and_nat n k hn hk
  have e2 : (((n &&& k : Nat) : Int) != 0) = t := by
    rw [ht, Bool.eq_iff_iff, bne_iff_ne, bne_iff_ne]
    omega
  clear ht
  generalize (n &&& k : Nat) = q at *
  go_enter Tryd.func65, Tryd.ntmps65
  go_wp2
  go_ret
  exact ⟨rfl, rfl⟩
def MarkP (w : World) (b n : Nat) (e : Ending) (w' : World) : Prop := e = .returned (.tuple #[]) ∧ Turn w w' b none ∧ w'.heap[b]? = some (.cells #[.int .u16 (n : Int)] 74)
theorem MarkP.out {w w' : World} {b n : Nat} {e : Ending} (h : MarkP w b n e w') : e = .returned (.tuple #[]) ∧ Turn w w' b none ∧ w'.heap[b]? = some (.cells #[.int .u16 (n : Int)] 74) := h
set_option maxRecDepth 100000 in
theorem mark_any (b n k : Nat) (t : Bool) (w : World) (hn : n < 2048) (hk : k < 2048) (h : w.heap[b]? = some (.cells #[.int .u16 (n : Int)] 74)) :
    Calls Tryd.prog 75 #[.pointer (some ⟨b, 0, none⟩), .int .u16 (k : Int), .bool t] w (MarkP w b (orN n k t)) := by
  have c0 : w.cell? ⟨b, 0, none⟩ = some (.int .u16 (n : Int)) := cell_of_row _ _ 0 _ _ (0, 0) h
  have fz := frozen_of_row w b 0 _ _ h
  cases t
  · have hw : MarkP w b (orN n k false) (.returned (.tuple #[])) w := ⟨rfl, Turn.refl _ _ _, h⟩
    have HW := hide hw
    clear hw
    go_enter Tryd.func75, Tryd.ntmps75
    go_wp2
    first | go_end0 | refine bodyPost_ret (results_none rfl _ _ _) rfl ?_
    exact HW.out
  · have e1 := u16_or_nat n k (by omega) (by omega)
    have e2 : orN n k true = n ||| k := rfl
    have hw : MarkP w b (orN n k true) (.returned (.tuple #[])) (w.setCell ⟨b, 0, none⟩ (.int .u16 ((n ||| k : Nat) : Int))) := by
      refine ⟨rfl, (Turn.refl _ _ _).set_ rfl _, ?_⟩
      rw [e2]
      exact heap_setCell_at h
    have HW := hide hw
    clear hw e2
    generalize (n ||| k : Nat) = q at *
    go_enter Tryd.func75, Tryd.ntmps75
    go_wp2
    first | go_end0 | refine bodyPost_ret (results_none rfl _ _ _) rfl ?_
    exact HW.out
theorem tab_has {k : Nat} (hk : k < 15) (h5 : k ≠ 5) : (tabM k &&& 64 != 0) = false := by
  have : k = 0 ∨ k = 1 ∨ k = 2 ∨ k = 3 ∨ k = 4 ∨ k = 6 ∨ k = 7 ∨ k = 8 ∨ k = 9 ∨ k = 10 ∨ k = 11 ∨ k = 12 ∨ k = 13 ∨ k = 14 := by omega
  rcases this with rfl | rfl | rfl | rfl | rfl | rfl | rfl | rfl | rfl | rfl | rfl | rfl | rfl | rfl <;> decide
theorem bitsM_out {k : Int} {t : Bool} (h : ¬ (0 ≤ k ∧ k < 15)) : bitsM k t = 0 := by
  apply Classical.byContradiction
  intro hn
  have := bitsM_some.1 hn
  omega
theorem bitsM_of {k : Nat} {t : Bool} (h5 : k ≠ 5) : bitsM (k : Int) t = tabM k := by
  unfold bitsM
  rw [if_neg (by omega), Int.toNat_natCast]
set_option maxRecDepth 100000 in
theorem fieldsOf_any (z : Mx) (w : World) (hK : Kinds w) :
    Calls Tryd.prog 35 #[.agg #[.int .i64 z.kind, .int .u16 (z.who.i : Int), .int .u32 (z.who.k : Int), .int .u64 (z.view : Int), .int .u64 (z.slot : Int), .int .u64 (z.num : Int), .int .i64 z.hops, .int .u32 (z.b.r : Int), .int .u16 (z.b.p.i : Int), .int .u32 (z.b.p.k : Int), .int .u32 (z.a.r : Int), .int .u16 (z.a.p.i : Int), .int .u32 (z.a.p.k : Int), .bool z.has, .int .i64 z.y.kind, .int .u16 (z.y.p.i : Int), .int .u32 (z.y.p.k : Int), .int .u64 (z.y.num : Int), .int .u64 (z.y.vn : Int), .slice z.y.A z.y.n z.y.c, .int .u64 (z.y.x.id : Int), .slice z.y.x.A z.y.x.m z.y.x.c, .slice z.y.x.B z.y.x.d z.y.x.e, .slice z.y.x.C z.y.x.f z.y.x.g, .int .u64 (z.x.id : Int), .slice z.x.A z.x.m z.x.c, .slice z.x.B z.x.d z.x.e, .slice z.x.C z.x.f z.x.g, .slice z.A z.n z.c]] w fun e w' => e = .returned (.int .u16 ((bitsM z.kind z.has : Nat) : Int)) ∧ Below w.heap.size w w' := by
  have hbz : Below w.heap.size w (w.alloc (.cells #[.int .i64 z.kind, .int .u16 (z.who.i : Int), .int .u32 (z.who.k : Int), .int .u64 (z.view : Int), .int .u64 (z.slot : Int), .int .u64 (z.num : Int), .int .i64 z.hops, .int .u32 (z.b.r : Int), .int .u16 (z.b.p.i : Int), .int .u32 (z.b.p.k : Int), .int .u32 (z.a.r : Int), .int .u16 (z.a.p.i : Int), .int .u32 (z.a.p.k : Int), .bool z.has, .int .i64 z.y.kind, .int .u16 (z.y.p.i : Int), .int .u32 (z.y.p.k : Int), .int .u64 (z.y.num : Int), .int .u64 (z.y.vn : Int), .slice z.y.A z.y.n z.y.c, .int .u64 (z.y.x.id : Int), .slice z.y.x.A z.y.x.m z.y.x.c, .slice z.y.x.B z.y.x.d z.y.x.e, .slice z.y.x.C z.y.x.f z.y.x.g, .int .u64 (z.x.id : Int), .slice z.x.A z.x.m z.x.c, .slice z.x.B z.x.d z.x.e, .slice z.x.C z.x.f z.x.g, .slice z.A z.n z.c] 37)) := (Below.refl _ _).alloc (Nat.le_refl _) _
  have v0 := MAt10.mk_ w z
  have j0 := v0.cells.1
  have j13 := v0.cells.2.2.2.2.2.2.2.2.2.2.2.2.2.1
  have hs1 : (w.alloc (.cells #[.int .i64 z.kind, .int .u16 (z.who.i : Int), .int .u32 (z.who.k : Int), .int .u64 (z.view : Int), .int .u64 (z.slot : Int), .int .u64 (z.num : Int), .int .i64 z.hops, .int .u32 (z.b.r : Int), .int .u16 (z.b.p.i : Int), .int .u32 (z.b.p.k : Int), .int .u32 (z.a.r : Int), .int .u16 (z.a.p.i : Int), .int .u32 (z.a.p.k : Int), .bool z.has, .int .i64 z.y.kind, .int .u16 (z.y.p.i : Int), .int .u32 (z.y.p.k : Int), .int .u64 (z.y.num : Int), .int .u64 (z.y.vn : Int), .slice z.y.A z.y.n z.y.c, .int .u64 (z.y.x.id : Int), .slice z.y.x.A z.y.x.m z.y.x.c, .slice z.y.x.B z.y.x.d z.y.x.e, .slice z.y.x.C z.y.x.f z.y.x.g, .int .u64 (z.x.id : Int), .slice z.x.A z.x.m z.x.c, .slice z.x.B z.x.d z.x.e, .slice z.x.C z.x.f z.x.g, .slice z.A z.n z.c] 37)).heap.size = w.heap.size + 1 := by simp
  have hK1 := hK.later hbz
  generalize hw1 : w.alloc (.cells #[.int .i64 z.kind, .int .u16 (z.who.i : Int), .int .u32 (z.who.k : Int), .int .u64 (z.view : Int), .int .u64 (z.slot : Int), .int .u64 (z.num : Int), .int .i64 z.hops, .int .u32 (z.b.r : Int), .int .u16 (z.b.p.i : Int), .int .u32 (z.b.p.k : Int), .int .u32 (z.a.r : Int), .int .u16 (z.a.p.i : Int), .int .u32 (z.a.p.k : Int), .bool z.has, .int .i64 z.y.kind, .int .u16 (z.y.p.i : Int), .int .u32 (z.y.p.k : Int), .int .u64 (z.y.num : Int), .int .u64 (z.y.vn : Int), .slice z.y.A z.y.n z.y.c, .int .u64 (z.y.x.id : Int), .slice z.y.x.A z.y.x.m z.y.x.c, .slice z.y.x.B z.y.x.d z.y.x.e, .slice z.y.x.C z.y.x.f z.y.x.g, .int .u64 (z.x.id : Int), .slice z.x.A z.x.m z.x.c, .slice z.x.B z.x.d z.x.e, .slice z.x.C z.x.f z.x.g, .slice z.A z.n z.c] 37) = w1 at *
  by_cases h0 : z.kind < 0
  · have z0 : decide (z.kind < 0) = true := decide_eq_true h0
    have hf : (0 : Int) = ((bitsM z.kind z.has : Nat) : Int) := by rw [bitsM_out (by omega)]; rfl
    have HF := hide hf
    clear hf h0
    go_enter Tryd.func35, Tryd.ntmps35
    go_wp2
    go_ret
    exact ⟨ret_int HF.out, hbz⟩
  have z0 : decide (z.kind < 0) = false := decide_eq_false h0
  by_cases h1 : 15 ≤ z.kind
  · have z1 : decide (15 ≤ z.kind) = true := decide_eq_true h1
    have hf : (0 : Int) = ((bitsM z.kind z.has : Nat) : Int) := by rw [bitsM_out (by omega)]; rfl
    have HF := hide hf
    clear hf h0 h1
    go_enter Tryd.func35, Tryd.ntmps35
    go_wp2
    go_ret
    exact ⟨ret_int HF.out, hbz⟩
  have z1 : decide (15 ≤ z.kind) = false := decide_eq_false h1
  have hb1 : w.heap.size < w1.heap.size := v0.lt
  by_cases h5 : z.kind = 5
  · rw [h5] at hw1 j0 z0 z1 ⊢
    have kc : w1.cell? ⟨0, 11, none⟩ = some (.int .u16 76) := hK1 5 (by decide)
    clear h0 h1 h5
    have cw : ∀ W, Calls Tryd.prog 65 #[.int .u16 76, .int .u16 64] W (fun e w' => e = .returned (.bool true) ∧ W = w') := fun W => fwith_any 76 64 W true (by decide) (by decide) (by decide)
    have hf : orN 76 384 z.has = bitsM 5 z.has := by cases z.has <;> decide
    have cm : Calls Tryd.prog 75 #[.pointer (some ⟨w1.heap.size, 0, none⟩), .int .u16 384, .bool z.has] (w1.alloc (.cells #[.int .u16 76] 74)) (MarkP (w1.alloc (.cells #[.int .u16 76] 74)) w1.heap.size (orN 76 384 z.has)) :=
      mark_any w1.heap.size 76 384 z.has (w1.alloc (.cells #[.int .u16 76] 74)) (by decide) (by decide) (heap_alloc_new _ _)
    rw [hf, hs1] at cm
    generalize bitsM 5 z.has = q at *
    clear hf
    have hb2 := hbz.alloc hbz.size (.cells #[.int .u16 76] 74)
    have y13 := (v0.alloc (.cells #[.int .u16 76] 74)).cells.2.2.2.2.2.2.2.2.2.2.2.2.2.1
    have x0 : (w1.alloc (.cells #[.int .u16 76] 74)).cell? ⟨w1.heap.size, 0, none⟩ = some (.int .u16 76) := cell_of_row _ _ 0 _ _ (0, 0) (heap_alloc_new _ _)
    rw [hs1] at x0
    go_enter Tryd.func35, Tryd.ntmps35
    go_wp2_with fail
    refine (cw _).mono ?_
    rintro e w2 ⟨rfl, rfl⟩
    go_wp2_with fail
    refine cm.mono ?_
    intro e w2 hm
    obtain ⟨he, ht, hc⟩ := MarkP.out hm
    subst he
    have hb3 : Below w.heap.size w w2 := hb2.trans (ht.below hb2.size (by omega) (fun g hg => by cases hg))
    have x1 : w2.cell? ⟨w.heap.size + 1, 0, none⟩ = some (.int .u16 (q : Int)) := cell_of_row _ _ 0 _ _ (0, 0) hc
    clear hc ht hb2 x0 y13 cm
    go_wp2
    go_ret
    exact ⟨rfl, hb3⟩
  obtain ⟨k, hk⟩ := Int.eq_ofNat_of_zero_le (show 0 ≤ z.kind by omega)
  rw [hk] at hw1 j0 z0 z1 ⊢
  have hk15 : k < 15 := by omega
  have hk15' : (k : Int) < 15 := by omega
  have h5' : k ≠ 5 := by omega
  have kc := hK1 k hk15
  clear h0 h1 hk h5
  have cw := fun W => fwith_any (tabM k) 64 W false (Nat.lt_of_lt_of_le (tabM_lt k) (by decide)) (by decide) (tab_has hk15 h5').symm
  rw [bitsM_of h5']
  generalize tabM k = q at *
  clear h5'
  go_enter Tryd.func35, Tryd.ntmps35
  go_wp2_with fail
  refine (cw _).mono ?_
  rintro e w2 ⟨rfl, rfl⟩
  go_wp2
  go_ret
  exact ⟨rfl, hbz.alloc hbz.size _⟩
end Go.Proofs.YtjmkecaljkcoiaaDoor
namespace Go.Proofs.YtjmkecaljkcoiaaDoor
set_option linter.unusedSimpArgs false
open Go.RowKit Go.Lib Go.ChangeShapes Go.WideShapes
theorem gKinds : Tryd.prog.globalNamed "choragus/msg.kinds" = some 0 := by kernel_rfl
theorem tKinds : (Tryd.prog.globals[0]?).map (·.type) = some 111 := by kernel_rfl
theorem cellsKind : Tryd.prog.cellsOf 110 = 2 := by kernel_rfl
theorem cellsKinds : Tryd.prog.cellsOf 111 = 30 := by kernel_rfl
theorem cellsStr10 : Tryd.prog.cellsOf 9 = 1 := by kernel_rfl
theorem cellsFields : Tryd.prog.cellsOf 74 = 1 := by kernel_rfl
set_option maxRecDepth 100000 in
theorem kind_cells {H : Type} {enc : TypeId × Value → H} {w : World} {base : Nat} {sp : Nat → Bool} {held : Bool} {fuel : Nat} {cs : List Value} {x : DataW H × List MemPlace} (h : DataW.trod enc Tryd.prog w base sp held fuel 110 cs = some x) :
    ∃ (s : ByteArray) (n : Int), cs = [.string s, .int .u16 n] ∧ x.1 = .agg [.lit (.string s.data.toList), .lit (.int .u16 n)] := by
  obtain ⟨y0, y1, n, hx, hl, h0, h1⟩ := trod_struct2 Tryd.underlying110 h
  rw [cellsKind] at hl
  match cs, hl with
  | [a, b], _ =>
    simp only [cellsStr10, cellsFields, List.drop_zero, List.drop_succ_cons, List.take_succ_cons, List.take_zero] at h0 h1
    obtain ⟨s, e0, q0, _⟩ := DataW.trod_string Tryd.underlying9 h0
    obtain ⟨m, e1, q1, _⟩ := DataW.trod_int Tryd.underlying74 h1
    simp only [List.cons.injEq, and_true] at e0 e1
    subst e0 e1 q0 q1
    exact ⟨s, m, rfl, by rw [hx]⟩
def kindD {H : Type} (i : Nat) : DataW H := match (Rows.laid_choragus_msg_kinds : DataW H) with | .agg l => l.getD i .nil | _ => .nil
theorem kindD_has {H : Type} {i : Nat} (hi : i < 15) : ∃ t, (kindD i : DataW H) = .agg [.lit (.string t), .lit (.int .u16 ((tabM i : Nat) : Int))] := by
  have : i = 0 ∨ i = 1 ∨ i = 2 ∨ i = 3 ∨ i = 4 ∨ i = 5 ∨ i = 6 ∨ i = 7 ∨ i = 8 ∨ i = 9 ∨ i = 10 ∨ i = 11 ∨ i = 12 ∨ i = 13 ∨ i = 14 := by omega
  rcases this with rfl | rfl | rfl | rfl | rfl | rfl | rfl | rfl | rfl | rfl | rfl | rfl | rfl | rfl | rfl <;> exact ⟨_, rfl⟩
set_option maxRecDepth 100000 in
theorem kinds_of {W : World} {rest : List (String × DataW Unit)} (h : laidMet Tryd.prog (("choragus/msg.kinds", Rows.laid_choragus_msg_kinds) :: rest) W) : Kinds W := by
  obtain ⟨ps, ⟨g', t', cs, fuel, p, q, hg', ht', hvar, hd, _, _⟩, _⟩ := h
  obtain rfl := Option.some.inj (gKinds.symm.trans hg')
  obtain rfl := Option.some.inj (tKinds.symm.trans ht')
  obtain ⟨xs, m, _, hx, hl, hlen, hf⟩ := DataW.trod_array Tryd.underlying111 hd
  rw [cellsKinds] at hl
  simp only [cellsKind] at hf
  intro i hi
  have hfi := hf i hi
  have hxl : i < xs.length := by omega
  rw [List.getElem?_eq_getElem hxl] at hfi
  obtain ⟨s, n, e, e2⟩ := kind_cells hfi
  have hk : (xs[i].1 : DataW Unit) = kindD i := by
    have e3 := congrArg Prod.fst hx
    simp only at e3
    unfold kindD
    rw [e3]
    simp [List.getD, hxl]
  obtain ⟨t, et⟩ := kindD_has (H := Unit) hi
  rw [hk, et] at e2
  have hn : n = ((tabM i : Nat) : Int) := by
    injection e2 with e2
    injection e2 with _ e2
    injection e2 with e2 _
    injection e2 with e2
    injection e2 with _ e2
    exact e2.symm
  have hc := World.var?_cell gKinds hvar (i * 2 + 1)
  rw [hc]
  have := congrArg (·[1]?) e
  simp only [List.getElem?_take, List.getElem?_drop] at this
  simp at this
  rw [← hn]
  simpa using this
end Go.Proofs.YtjmkecaljkcoiaaDoor
