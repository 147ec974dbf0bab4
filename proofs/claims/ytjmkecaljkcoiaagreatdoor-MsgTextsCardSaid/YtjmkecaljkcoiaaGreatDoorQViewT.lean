import Derived.Test.YtjmkecaljkcoiaaGreatDoorQOpenV
import Derived.Lib.LaidTab
import Derived.Test.YtjmkecaljkcoiaaGreatDoorQOpenMg
import Derived.Test.YtjmkecaljkcoiaaGreatDoorRows
import Derived.OpenShut
import Derived.LaidByTextLater
import Derived.Lib.ItoaNum
import Derived.Lib.ParseIntB
import Derived.Lib.IndexLaws
import Derived.Lib.Strings
import Derived.Lib.IndexBytes
import Derived.Test.YtjmkecaljkcoiaaGreatDoorQViewM
import Derived.Test.YtjmkecaljkcoiaaGreatDoorQView6
namespace Go.Proofs.YtjmkecaljkcoiaaGreatDoor
open Go.ChangeShapes Go.WideShapes Go.RowKit
set_option linter.unusedVariables false
set_option linter.unusedSimpArgs false
structure Bt where
  v : Nat
  a : Nat
  l : Nat
  s : Nat
  q : List Pr
structure Bx where
  v : Nat
  a : Nat
  l : Nat
  s : Nat
  A : Option Addr
  n : Nat
  c : Nat
  q : List Pr
def Bx.m (x : Bx) : Bt := ⟨x.v, x.a, x.l, x.s, x.q⟩
structure BxIn (w : World) (B0 : Nat) (x : Bx) : Prop where
  hv : x.v < 18446744073709551616
  ha : x.a < 18446744073709551616
  hl : x.l < 18446744073709551616
  hs : x.s < 18446744073709551616
  es : Es prC w B0 x.A x.n x.q
  nc : x.n ≤ x.c
  room : x.c ≤ maxLen
theorem BxIn.below {w w' : World} {B0 : Nat} {x : Bx} (h : BxIn w B0 x) (hb : Below B0 w w') : BxIn w' B0 x := ⟨h.hv, h.ha, h.hl, h.hs, h.es.below hb, h.nc, h.room⟩
theorem BxIn.more {w : World} {B0 B1 : Nat} {x : Bx} (h : BxIn w B0 x) (hb : B0 ≤ B1) : BxIn w B1 x := ⟨h.hv, h.ha, h.hl, h.hs, h.es.more hb, h.nc, h.room⟩
def BAt (w : World) (b : Nat) (x : Bx) : Prop := w.heap[b]? = some (.cells #[.int .u64 x.v, .int .u64 x.a, .int .u64 x.l, .int .u64 x.s, .slice x.A x.n x.c] 59)
theorem cells_beat : Tryz.prog.cellsOf 59 = 5 := by kernel_rfl
section
variable {H : Type} {enc : TypeId × Value → H} {w : World} {base : Nat} {spare : Nat → Bool} {held : Bool}
set_option maxRecDepth 100000 in
theorem open_beat {r : Reach} {b0 : Nat} {v : Value} {d : DataW H} {p : List MemPlace} (hv : Value.okWide Tryz.prog w r b0 59 v) (h : DataW.Trod enc Tryz.prog w base spare held 59 v d p) :
    ∃ x : Bx, v = .agg #[.int .u64 x.v, .int .u64 x.a, .int .u64 x.l, .int .u64 x.s, .slice x.A x.n x.c] ∧ BxIn w w.heap.size x := by
  obtain ⟨cs, rfl, _⟩ := okWide_struct Tryz.underlying59 hv
  obtain ⟨fuel, hf⟩ := h
  obtain ⟨y0, y1, y2, y3, y4, n, hl, h0, h1, h2, h3, h4⟩ := trod_struct5 Tryz.underlying59 hf
  rw [cells_beat] at hl
  obtain ⟨l⟩ := cs
  simp only [Value.cells] at hl h0 h1 h2 h3 h4
  match l, hl with
  | [a0, a1, a2, a3, a4], _ =>
    simp only [cells_u64, cells_pidsV, List.drop_zero, List.drop_succ_cons, List.take_succ_cons, List.take_zero] at h0 h1 h2 h3 h4
    obtain ⟨i0, e0, g0⟩ := u64_cell h0
    obtain ⟨i1, e1, g1⟩ := u64_cell h1
    obtain ⟨i2, e2, g2⟩ := u64_cell h2
    obtain ⟨i3, e3, g3⟩ := u64_cell h3
    obtain ⟨y, e4, hy⟩ := pids_cell h4
    simp only [List.cons.injEq, and_true] at e0 e1 e2 e3
    subst e0 e1 e2 e3 e4
    exact ⟨⟨i0, i1, i2, i3, y.A, y.m, y.c, y.l⟩, rfl, ⟨g0, g1, g2, g3, hy.es, hy.mc, hy.room⟩⟩
end
end Go.Proofs.YtjmkecaljkcoiaaGreatDoor
namespace Go.Proofs.YtjmkecaljkcoiaaGreatDoor
open Go.RowKit Go.Maps
set_option linter.unusedVariables false
set_option linter.unusedSimpArgs false
def Kinds (w : World) : Prop := ∀ i, i < 15 → w.cell? ⟨0, i * 2 + 1, none⟩ = some (.int .u16 ((tabM i : Nat) : Int))
theorem Kinds.lt {w : World} (h : Kinds w) : 0 < w.heap.size := World.block_lt_of_cell? w _ (h 0 (by decide))
theorem Kinds.later {w w' : World} (h : Kinds w) (hb : Below w.heap.size w w') : Kinds w' := fun i hi => (hb.cell (p := ⟨0, i * 2 + 1, none⟩) h.lt).trans (h i hi)
theorem Kinds.turn {w w' : World} {b : Nat} {mg : Option Nat} (h : Kinds w) (ht : Turn w w' b mg) (h1 : 0 ≠ b) (h2 : some 0 ≠ mg) : Kinds w' := fun i hi => ht.cell (h i hi) h1 h2
set_option maxRecDepth 100000 in
theorem fwith_any (n k : Nat) (w : World) (t : Bool) (hn : n < 65536) (hk : k < 65536) (ht : t = (n &&& k != 0)) :
    Calls Tryz.prog 67 #[.int .u16 n, .int .u16 k] w fun e w' => e = .returned (.bool t) ∧ w = w' := by
  have e1 := u16_and_nat n k hn hk
  have e2 : (((n &&& k : Nat) : Int) != 0) = t := by
    rw [ht, Bool.eq_iff_iff, bne_iff_ne, bne_iff_ne]
    omega
  clear ht
  generalize (n &&& k : Nat) = q at *
  go_enter Tryz.func67, Tryz.ntmps67
  go_wp2
  go_ret
  exact ⟨rfl, rfl⟩
def MarkP (w : World) (b n : Nat) (e : Ending) (w' : World) : Prop := e = .returned (.tuple #[]) ∧ Turn w w' b none ∧ w'.heap[b]? = some (.cells #[.int .u16 n] 108)
theorem MarkP.out {w w' : World} {b n : Nat} {e : Ending} (h : MarkP w b n e w') : e = .returned (.tuple #[]) ∧ Turn w w' b none ∧ w'.heap[b]? = some (.cells #[.int .u16 n] 108) := h
set_option maxRecDepth 100000 in
theorem mark_any (b n k : Nat) (t : Bool) (w : World) (hn : n < 2048) (hk : k < 2048) (h : w.heap[b]? = some (.cells #[.int .u16 n] 108)) :
    Calls Tryz.prog 120 #[.pointer (some ⟨b, 0, none⟩), .int .u16 k, .bool t] w (MarkP w b (orN n k t)) := by
  have c0 : w.cell? ⟨b, 0, none⟩ = some (.int .u16 n) := cell_of_row _ _ 0 _ _ (0, 0) h
  have fz := frozen_of_row w b 0 _ _ h
  cases t
  · have hw : MarkP w b (orN n k false) (.returned (.tuple #[])) w := ⟨rfl, Turn.refl _ _ _, h⟩
    have HW := hide hw
    clear hw
    go_enter Tryz.func120, Tryz.ntmps120
    go_wp2
    first | go_end0 | refine bodyPost_ret (results_none rfl _ _ _) rfl ?_
    exact HW.out
  · have e1 := u16_or_nat n k (by omega) (by omega)
    have e2 : orN n k true = n ||| k := rfl
    have hw : MarkP w b (orN n k true) (.returned (.tuple #[])) (w.setCell ⟨b, 0, none⟩ (.int .u16 ((n ||| k : Nat) : Int))) := by
      refine ⟨rfl, (Turn.refl _ _ _).set_ rfl _, ?_⟩
      rw [e2]
      exact heap_setCell_at h
    have HW := hide hw
    clear hw e2
    generalize (n ||| k : Nat) = q at *
    go_enter Tryz.func120, Tryz.ntmps120
    go_wp2
    first | go_end0 | refine bodyPost_ret (results_none rfl _ _ _) rfl ?_
    exact HW.out
theorem tab_has {k : Nat} (hk : k < 15) (h5 : k ≠ 5) : (tabM k &&& 64 != 0) = false := by
  have : k = 0 ∨ k = 1 ∨ k = 2 ∨ k = 3 ∨ k = 4 ∨ k = 6 ∨ k = 7 ∨ k = 8 ∨ k = 9 ∨ k = 10 ∨ k = 11 ∨ k = 12 ∨ k = 13 ∨ k = 14 := by omega
  rcases this with rfl | rfl | rfl | rfl | rfl | rfl | rfl | rfl | rfl | rfl | rfl | rfl | rfl | rfl <;> decide
theorem bitsM_out {k : Int} {t : Bool} (h : ¬ (0 ≤ k ∧ k < 15)) : bitsM k t = 0 := by
  apply Classical.byContradiction
  intro hn
  have := bitsM_some.1 hn
  omega
theorem bitsM_of {k : Nat} {t : Bool} (h5 : k ≠ 5) : bitsM (k : Int) t = tabM k := by
  unfold bitsM
  rw [if_neg (by omega), Int.toNat_natCast]
set_option maxRecDepth 100000 in
theorem fieldsOf_any (z : Mx) (w : World) (hK : Kinds w) :
    Calls Tryz.prog 65 #[.agg #[.int .i64 z.kind, .int .u16 z.who.i, .int .u32 z.who.k, .int .u64 z.view, .int .u64 z.slot, .int .u64 z.num, .int .i64 z.hops, .int .u32 z.b.r, .int .u16 z.b.p.i, .int .u32 z.b.p.k, .int .u32 z.a.r, .int .u16 z.a.p.i, .int .u32 z.a.p.k, .bool z.has, .int .i64 z.y.kind, .int .u16 z.y.p.i, .int .u32 z.y.p.k, .int .u64 z.y.num, .int .u64 z.y.vn, .slice z.y.A z.y.n z.y.c, .int .u64 z.y.x.id, .slice z.y.x.A z.y.x.m z.y.x.c, .slice z.y.x.B z.y.x.d z.y.x.e, .slice z.y.x.C z.y.x.f z.y.x.g, .int .u64 z.x.id, .slice z.x.A z.x.m z.x.c, .slice z.x.B z.x.d z.x.e, .slice z.x.C z.x.f z.x.g, .slice z.A z.n z.c]] w fun e w' => e = .returned (.int .u16 ((bitsM z.kind z.has : Nat) : Int)) ∧ Below w.heap.size w w' := by
  have hbz : Below w.heap.size w (w.alloc (.cells #[.int .i64 z.kind, .int .u16 z.who.i, .int .u32 z.who.k, .int .u64 z.view, .int .u64 z.slot, .int .u64 z.num, .int .i64 z.hops, .int .u32 z.b.r, .int .u16 z.b.p.i, .int .u32 z.b.p.k, .int .u32 z.a.r, .int .u16 z.a.p.i, .int .u32 z.a.p.k, .bool z.has, .int .i64 z.y.kind, .int .u16 z.y.p.i, .int .u32 z.y.p.k, .int .u64 z.y.num, .int .u64 z.y.vn, .slice z.y.A z.y.n z.y.c, .int .u64 z.y.x.id, .slice z.y.x.A z.y.x.m z.y.x.c, .slice z.y.x.B z.y.x.d z.y.x.e, .slice z.y.x.C z.y.x.f z.y.x.g, .int .u64 z.x.id, .slice z.x.A z.x.m z.x.c, .slice z.x.B z.x.d z.x.e, .slice z.x.C z.x.f z.x.g, .slice z.A z.n z.c] 50)) := (Below.refl _ _).alloc (Nat.le_refl _) _
  have v0 := MAt10.mk_ w z
  have j0 := v0.cells.1
  have j13 := v0.cells.2.2.2.2.2.2.2.2.2.2.2.2.2.1
  have hs1 : (w.alloc (.cells #[.int .i64 z.kind, .int .u16 z.who.i, .int .u32 z.who.k, .int .u64 z.view, .int .u64 z.slot, .int .u64 z.num, .int .i64 z.hops, .int .u32 z.b.r, .int .u16 z.b.p.i, .int .u32 z.b.p.k, .int .u32 z.a.r, .int .u16 z.a.p.i, .int .u32 z.a.p.k, .bool z.has, .int .i64 z.y.kind, .int .u16 z.y.p.i, .int .u32 z.y.p.k, .int .u64 z.y.num, .int .u64 z.y.vn, .slice z.y.A z.y.n z.y.c, .int .u64 z.y.x.id, .slice z.y.x.A z.y.x.m z.y.x.c, .slice z.y.x.B z.y.x.d z.y.x.e, .slice z.y.x.C z.y.x.f z.y.x.g, .int .u64 z.x.id, .slice z.x.A z.x.m z.x.c, .slice z.x.B z.x.d z.x.e, .slice z.x.C z.x.f z.x.g, .slice z.A z.n z.c] 50)).heap.size = w.heap.size + 1 := by simp
  have hK1 := hK.later hbz
  generalize hw1 : w.alloc (.cells #[.int .i64 z.kind, .int .u16 z.who.i, .int .u32 z.who.k, .int .u64 z.view, .int .u64 z.slot, .int .u64 z.num, .int .i64 z.hops, .int .u32 z.b.r, .int .u16 z.b.p.i, .int .u32 z.b.p.k, .int .u32 z.a.r, .int .u16 z.a.p.i, .int .u32 z.a.p.k, .bool z.has, .int .i64 z.y.kind, .int .u16 z.y.p.i, .int .u32 z.y.p.k, .int .u64 z.y.num, .int .u64 z.y.vn, .slice z.y.A z.y.n z.y.c, .int .u64 z.y.x.id, .slice z.y.x.A z.y.x.m z.y.x.c, .slice z.y.x.B z.y.x.d z.y.x.e, .slice z.y.x.C z.y.x.f z.y.x.g, .int .u64 z.x.id, .slice z.x.A z.x.m z.x.c, .slice z.x.B z.x.d z.x.e, .slice z.x.C z.x.f z.x.g, .slice z.A z.n z.c] 50) = w1 at *
  by_cases h0 : z.kind < 0
  · have z0 : decide (z.kind < 0) = true := decide_eq_true h0
    have hf : (0 : Int) = ((bitsM z.kind z.has : Nat) : Int) := by rw [bitsM_out (by omega)]; rfl
    have HF := hide hf
    clear hf h0
    go_enter Tryz.func65, Tryz.ntmps65
    go_wp2
    go_ret
    exact ⟨ret_int HF.out, hbz⟩
  have z0 : decide (z.kind < 0) = false := decide_eq_false h0
  by_cases h1 : 15 ≤ z.kind
  · have z1 : decide (15 ≤ z.kind) = true := decide_eq_true h1
    have hf : (0 : Int) = ((bitsM z.kind z.has : Nat) : Int) := by rw [bitsM_out (by omega)]; rfl
    have HF := hide hf
    clear hf h0 h1
    go_enter Tryz.func65, Tryz.ntmps65
    go_wp2
    go_ret
    exact ⟨ret_int HF.out, hbz⟩
  have z1 : decide (15 ≤ z.kind) = false := decide_eq_false h1
  have hb1 : w.heap.size < w1.heap.size := v0.lt
  by_cases h5 : z.kind = 5
  · rw [h5] at hw1 j0 z0 z1 ⊢
    have kc : w1.cell? ⟨0, 11, none⟩ = some (.int .u16 76) := hK1 5 (by decide)
    clear h0 h1 h5
    have cw : ∀ W, Calls Tryz.prog 67 #[.int .u16 76, .int .u16 64] W (fun e w' => e = .returned (.bool true) ∧ W = w') := fun W => fwith_any 76 64 W true (by decide) (by decide) (by decide)
    have hf : orN 76 384 z.has = bitsM 5 z.has := by cases z.has <;> decide
    have cm : Calls Tryz.prog 120 #[.pointer (some ⟨w1.heap.size, 0, none⟩), .int .u16 384, .bool z.has] (w1.alloc (.cells #[.int .u16 76] 108)) (MarkP (w1.alloc (.cells #[.int .u16 76] 108)) w1.heap.size (orN 76 384 z.has)) :=
      mark_any w1.heap.size 76 384 z.has (w1.alloc (.cells #[.int .u16 76] 108)) (by decide) (by decide) (heap_alloc_new _ _)
    rw [hf, hs1] at cm
    generalize bitsM 5 z.has = q at *
    clear hf
    have hb2 := hbz.alloc hbz.size (.cells #[.int .u16 76] 108)
    have y13 := (v0.alloc (.cells #[.int .u16 76] 108)).cells.2.2.2.2.2.2.2.2.2.2.2.2.2.1
    have x0 : (w1.alloc (.cells #[.int .u16 76] 108)).cell? ⟨w1.heap.size, 0, none⟩ = some (.int .u16 76) := cell_of_row _ _ 0 _ _ (0, 0) (heap_alloc_new _ _)
    rw [hs1] at x0
    go_enter Tryz.func65, Tryz.ntmps65
    go_wp2_with fail
    refine (cw _).mono ?_
    rintro e w2 ⟨rfl, rfl⟩
    go_wp2_with fail
    refine cm.mono ?_
    intro e w2 hm
    obtain ⟨he, ht, hc⟩ := MarkP.out hm
    subst he
    have hb3 : Below w.heap.size w w2 := hb2.trans (ht.below hb2.size (by omega) (fun g hg => by cases hg))
    have x1 : w2.cell? ⟨w.heap.size + 1, 0, none⟩ = some (.int .u16 q) := cell_of_row _ _ 0 _ _ (0, 0) hc
    clear hc ht hb2 x0 y13 cm
    go_wp2
    go_ret
    exact ⟨rfl, hb3⟩
  obtain ⟨k, hk⟩ := Int.eq_ofNat_of_zero_le (show 0 ≤ z.kind by omega)
  rw [hk] at hw1 j0 z0 z1 ⊢
  have hk15 : k < 15 := by omega
  have hk15' : (k : Int) < 15 := by omega
  have h5' : k ≠ 5 := by omega
  have kc := hK1 k hk15
  clear h0 h1 hk h5
  have cw := fun W => fwith_any (tabM k) 64 W false (Nat.lt_of_lt_of_le (tabM_lt k) (by decide)) (by decide) (tab_has hk15 h5').symm
  rw [bitsM_of h5']
  generalize tabM k = q at *
  clear h5'
  go_enter Tryz.func65, Tryz.ntmps65
  go_wp2_with fail
  refine (cw _).mono ?_
  rintro e w2 ⟨rfl, rfl⟩
  go_wp2
  go_ret
  exact ⟨rfl, hbz.alloc hbz.size _⟩
end Go.Proofs.YtjmkecaljkcoiaaGreatDoor
namespace Go.Proofs.YtjmkecaljkcoiaaGreatDoor
set_option linter.unusedSimpArgs false
open Go.RowKit Go.Lib Go.ChangeShapes Go.WideShapes
theorem gKinds : Tryz.prog.globalNamed "choragus/msg.kinds" = some 0 := by kernel_rfl
theorem tKinds : (Tryz.prog.globals[0]?).map (·.type) = some 111 := by kernel_rfl
theorem cellsKind : Tryz.prog.cellsOf 110 = 2 := by kernel_rfl
theorem cellsKinds : Tryz.prog.cellsOf 111 = 30 := by kernel_rfl
theorem cellsStr10 : Tryz.prog.cellsOf 9 = 1 := by kernel_rfl
theorem cellsFields : Tryz.prog.cellsOf 108 = 1 := by kernel_rfl
set_option maxRecDepth 100000 in
theorem kind_cells {H : Type} {enc : TypeId × Value → H} {w : World} {base : Nat} {sp : Nat → Bool} {held : Bool} {fuel : Nat} {cs : List Value} {x : DataW H × List MemPlace} (h : DataW.trod enc Tryz.prog w base sp held fuel 110 cs = some x) :
    ∃ (s : ByteArray) (n : Int), cs = [.string s, .int .u16 n] ∧ x.1 = .agg [.lit (.string s.data.toList), .lit (.int .u16 n)] := by
  obtain ⟨y0, y1, n, hx, hl, h0, h1⟩ := trod_struct2 Tryz.underlying110 h
  rw [cellsKind] at hl
  match cs, hl with
  | [a, b], _ =>
    simp only [cellsStr10, cellsFields, List.drop_zero, List.drop_succ_cons, List.take_succ_cons, List.take_zero] at h0 h1
    obtain ⟨s, e0, q0, _⟩ := DataW.trod_string Tryz.underlying9 h0
    obtain ⟨m, e1, q1, _⟩ := DataW.trod_int Tryz.underlying108 h1
    simp only [List.cons.injEq, and_true] at e0 e1
    subst e0 e1 q0 q1
    exact ⟨s, m, rfl, by rw [hx]⟩
def kindD {H : Type} (i : Nat) : DataW H := match (Rows.laid_choragus_msg_kinds : DataW H) with | .agg l => l.getD i .nil | _ => .nil
theorem kindD_has {H : Type} {i : Nat} (hi : i < 15) : ∃ t, (kindD i : DataW H) = .agg [.lit (.string t), .lit (.int .u16 ((tabM i : Nat) : Int))] := by
  have : i = 0 ∨ i = 1 ∨ i = 2 ∨ i = 3 ∨ i = 4 ∨ i = 5 ∨ i = 6 ∨ i = 7 ∨ i = 8 ∨ i = 9 ∨ i = 10 ∨ i = 11 ∨ i = 12 ∨ i = 13 ∨ i = 14 := by omega
  rcases this with rfl | rfl | rfl | rfl | rfl | rfl | rfl | rfl | rfl | rfl | rfl | rfl | rfl | rfl | rfl <;> exact ⟨_, rfl⟩
set_option maxRecDepth 100000 in
theorem kinds_of {W : World} {rest : List (String × DataW Unit)} (h : laidMet Tryz.prog (("choragus/msg.kinds", Rows.laid_choragus_msg_kinds) :: rest) W) : Kinds W := by
  obtain ⟨ps, ⟨g', t', cs, fuel, p, q, hg', ht', hvar, hd, _, _⟩, _⟩ := h
  obtain rfl := Option.some.inj (gKinds.symm.trans hg')
  obtain rfl := Option.some.inj (tKinds.symm.trans ht')
  obtain ⟨xs, m, _, hx, hl, hlen, hf⟩ := DataW.trod_array Tryz.underlying111 hd
  rw [cellsKinds] at hl
  simp only [cellsKind] at hf
  intro i hi
  have hfi := hf i hi
  have hxl : i < xs.length := by omega
  rw [List.getElem?_eq_getElem hxl] at hfi
  obtain ⟨s, n, e, e2⟩ := kind_cells hfi
  have hk : (xs[i].1 : DataW Unit) = kindD i := by
    have e3 := congrArg Prod.fst hx
    simp only at e3
    unfold kindD
    rw [e3]
    simp [List.getD, hxl]
  obtain ⟨t, et⟩ := kindD_has (H := Unit) hi
  rw [hk, et] at e2
  have hn : n = ((tabM i : Nat) : Int) := by
    injection e2 with e2
    injection e2 with _ e2
    injection e2 with e2 _
    injection e2 with e2
    injection e2 with _ e2
    exact e2.symm
  have hc := World.var?_cell gKinds hvar (i * 2 + 1)
  rw [hc]
  have := congrArg (·[1]?) e
  simp only [List.getElem?_take, List.getElem?_drop] at this
  simp at this
  rw [← hn]
  simpa using this
end Go.Proofs.YtjmkecaljkcoiaaGreatDoor
namespace Go.Proofs.YtjmkecaljkcoiaaGreatDoor
open Go.Lib
set_option linter.unusedVariables false
def isDig (c : UInt8) : Prop := 48 ≤ c.toNat ∧ c.toNat ≤ 57
def valF (acc : Nat) (l : List UInt8) : Nat := l.foldl (fun a c => a * 10 + (c.toNat - 48)) acc
def allDig (l : List UInt8) : Prop := ∀ c ∈ l, isDig c
theorem valF_snoc (acc : Nat) (l : List UInt8) (c : UInt8) : valF acc (l ++ [c]) = valF acc l * 10 + (c.toNat - 48) := by simp [valF]
theorem dig_toNat (d : Nat) (h : d < 10) : (UInt8.ofNat (48 + d)).toNat = 48 + d := by simp; omega
theorem dec_big (u : Nat) (h : ¬ u < 10) : decDigits u = decDigits (u / 10) ++ [UInt8.ofNat (48 + u % 10)] := by rw [decDigits, dif_neg h]
theorem dec_all (n : Nat) : allDig (decDigits n) ∧ valF 0 (decDigits n) = n := by
  induction n using Nat.strongRecOn with
  | ind n ih =>
    by_cases h : n < 10
    · rw [decDigits_one h]
      have := dig_toNat n h
      refine ⟨fun c hc => ?_, ?_⟩
      · rw [List.mem_singleton] at hc
        subst hc
        exact ⟨by omega, by omega⟩
      · simp only [valF, List.foldl_cons, List.foldl_nil]
        omega
    · have h2 := ih (n / 10) (by omega)
      have := dig_toNat (n % 10) (by omega)
      rw [dec_big n h]
      refine ⟨fun c hc => ?_, ?_⟩
      · rcases List.mem_append.1 hc with hc | hc
        · exact h2.1 c hc
        · rw [List.mem_singleton] at hc
          subst hc
          exact ⟨by omega, by omega⟩
      · rw [valF_snoc, h2.2]
        omega
theorem dec_inj {m n : Nat} (h : decDigits m = decDigits n) : m = n := by rw [← (dec_all m).2, h, (dec_all n).2]
theorem dec_len (n k : Nat) (hn : n < 10 ^ (k + 1)) : (decDigits n).length ≤ k + 1 := by
  induction k generalizing n with
  | zero => rw [decDigits_one (by simpa using hn)]; simp
  | succ k ih =>
    by_cases h : n < 10
    · rw [decDigits_one h]; simp
    · rw [dec_big n h, List.length_append, List.length_singleton]
      have := ih (n / 10) (by rw [Nat.pow_succ] at hn; omega)
      omega
def pidT (i k : Nat) : List UInt8 := decDigits i ++ [46] ++ decDigits k
theorem pidT_len (i k : Nat) (hi : i < 65536) (hk : k < 4294967296) : (pidT i k).length ≤ 16 := by
  have h1 := dec_len i 4 (by omega)
  have h2 := dec_len k 9 (by omega)
  rw [pidT, List.length_append, List.length_append, List.length_singleton]
  omega
def TextG (l : List UInt8) (q : Nat × Nat × Nat) : Prop :=
  (∃ i k, i < 65536 ∧ k < 4294967296 ∧ l = pidT i k ∧ q = (i, k, 0)) ∨ ((∀ i k, i < 65536 → k < 4294967296 → l ≠ pidT i k) ∧ q = (0, 0, 5))
theorem TextG.some_ (l : List UInt8) : ∃ q, TextG l q := by
  by_cases h : ∃ i k, i < 65536 ∧ k < 4294967296 ∧ l = pidT i k
  · obtain ⟨i, k, hi, hk, e⟩ := h
    exact ⟨_, .inl ⟨i, k, hi, hk, e, rfl⟩⟩
  · exact ⟨_, .inr ⟨fun i k hi hk e => h ⟨i, k, hi, hk, e⟩, rfl⟩⟩
end Go.Proofs.YtjmkecaljkcoiaaGreatDoor
namespace Go.Proofs.YtjmkecaljkcoiaaGreatDoor
open Go.RowKit Go.Lib
set_option linter.unusedVariables false
def partL (v : Vi) (p : Pr) : List UInt8 := pidT p.i p.k ++ (47 :: (decDigits (lfX v.lvs p) ++ (if p ∈ v.ldr then [42] else [])))
def partsL (v : Vi) : List Pr → List UInt8
  | [] => []
  | p :: r => 32 :: (partL v p ++ partsL v r)
theorem partsL_append (v : Vi) : ∀ l m : List Pr, partsL v (l ++ m) = partsL v l ++ partsL v m
  | [], m => rfl
  | p :: l, m => by rw [List.cons_append, partsL, partsL, partsL_append v l m, List.cons_append, List.append_assoc]
theorem partsL_take (v : Vi) {l : List Pr} {j : Nat} (h : j < l.length) : partsL v (l.take (j + 1)) = partsL v (l.take j) ++ (32 :: partL v l[j]) := by
  rw [List.take_succ_eq_append_getElem h, partsL_append]
  simp [partsL]
def printL (v : Vi) : List UInt8 := decDigits v.id ++ partsL v v.mem
theorem partL_len (v : Vi) (p : Pr) (h : lfX v.lvs p < 100) : (partL v p).length ≤ 20 := by
  have h1 := pidT_len p.i p.k p.hi p.hk
  have h2 := dec_len (lfX v.lvs p) 1 (by omega)
  unfold partL
  rw [List.length_append, List.length_cons, List.length_append]
  split <;> simp <;> omega
theorem LeavesP.has {mem : List Pr} {lvs : List (List Pr)} (h : LeavesP mem lvs) {p : Pr} (hp : p ∈ mem) : p ∈ lvs.flatten := by
  have := h.once p hp
  exact List.count_pos_iff.1 (by omega)
end Go.Proofs.YtjmkecaljkcoiaaGreatDoor
