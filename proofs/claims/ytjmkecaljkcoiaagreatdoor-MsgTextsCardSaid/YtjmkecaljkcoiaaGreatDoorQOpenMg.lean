import Derived.Test.YtjmkecaljkcoiaaGreatDoorQCmd6
import Derived.Test.YtjmkecaljkcoiaaGreatDoorQOpenC
namespace Go.Proofs.YtjmkecaljkcoiaaGreatDoor
open Go.RowKit Go.ChangeShapes Go.WideShapes Go.ChangeAt
set_option linter.unusedVariables false
set_option linter.unusedSimpArgs false
structure Mx where
  kind : Int
  who : Pr
  view : Nat
  slot : Nat
  num : Nat
  hops : Int
  b : Bl
  a : Bl
  has : Bool
  y : Cx
  x : Vw
  A : Option Addr
  n : Nat
  c : Nat
  l : List UInt8
def Mx.m (z : Mx) : Ms := ⟨z.kind, z.who, z.view, z.slot, z.num, z.hops, z.b, z.a, z.has, z.y.m, z.x.v, z.l⟩
structure MxIn (w : World) (B0 : Nat) (z : Mx) : Prop where
  k0 : -9223372036854775808 ≤ z.kind
  k1 : z.kind ≤ 9223372036854775807
  hv : z.view < 18446744073709551616
  hs : z.slot < 18446744073709551616
  hn : z.num < 18446744073709551616
  h0 : -9223372036854775808 ≤ z.hops
  h1 : z.hops ≤ 9223372036854775807
  cm : CxIn w B0 z.y
  vw : VwIn w B0 z.x
  bs : Bs w B0 z.A z.n z.l
  nc : z.n ≤ z.c
  room : z.c ≤ maxLen
theorem MxIn.below {w w' : World} {B0 : Nat} {z : Mx} (h : MxIn w B0 z) (hb : Below B0 w w') : MxIn w' B0 z := ⟨h.k0, h.k1, h.hv, h.hs, h.hn, h.h0, h.h1, h.cm.below hb, h.vw.below hb, h.bs.below hb, h.nc, h.room⟩
theorem MxIn.more {w : World} {B0 B1 : Nat} {z : Mx} (h : MxIn w B0 z) (hb : B0 ≤ B1) : MxIn w B1 z := ⟨h.k0, h.k1, h.hv, h.hs, h.hn, h.h0, h.h1, h.cm.more hb, h.vw.more hb, h.bs.more hb, h.nc, h.room⟩
def MAt10 (w : World) (b : Nat) (z : Mx) : Prop := w.heap[b]? = some (.cells #[.int .i64 z.kind, .int .u16 z.who.i, .int .u32 z.who.k, .int .u64 z.view, .int .u64 z.slot, .int .u64 z.num, .int .i64 z.hops, .int .u32 z.b.r, .int .u16 z.b.p.i, .int .u32 z.b.p.k, .int .u32 z.a.r, .int .u16 z.a.p.i, .int .u32 z.a.p.k, .bool z.has, .int .i64 z.y.kind, .int .u16 z.y.p.i, .int .u32 z.y.p.k, .int .u64 z.y.num, .int .u64 z.y.vn, .slice z.y.A z.y.n z.y.c, .int .u64 z.y.x.id, .slice z.y.x.A z.y.x.m z.y.x.c, .slice z.y.x.B z.y.x.d z.y.x.e, .slice z.y.x.C z.y.x.f z.y.x.g, .int .u64 z.x.id, .slice z.x.A z.x.m z.x.c, .slice z.x.B z.x.d z.x.e, .slice z.x.C z.x.f z.x.g, .slice z.A z.n z.c] 50)
section
variable {w w' : World} {b : Nat} {z : Mx}
theorem MAt10.cells (h : MAt10 w b z) : w.cell? ⟨b, 0, none⟩ = some (.int .i64 z.kind) ∧ w.cell? ⟨b, 1, none⟩ = some (.int .u16 z.who.i) ∧ w.cell? ⟨b, 2, none⟩ = some (.int .u32 z.who.k) ∧ w.cell? ⟨b, 3, none⟩ = some (.int .u64 z.view) ∧
    w.cell? ⟨b, 4, none⟩ = some (.int .u64 z.slot) ∧ w.cell? ⟨b, 5, none⟩ = some (.int .u64 z.num) ∧ w.cell? ⟨b, 6, none⟩ = some (.int .i64 z.hops) ∧ w.cell? ⟨b, 7, none⟩ = some (.int .u32 z.b.r) ∧ w.cell? ⟨b, 8, none⟩ = some (.int .u16 z.b.p.i) ∧ w.cell? ⟨b, 9, none⟩ = some (.int .u32 z.b.p.k) ∧
    w.cell? ⟨b, 10, none⟩ = some (.int .u32 z.a.r) ∧ w.cell? ⟨b, 11, none⟩ = some (.int .u16 z.a.p.i) ∧ w.cell? ⟨b, 12, none⟩ = some (.int .u32 z.a.p.k) ∧ w.cell? ⟨b, 13, none⟩ = some (.bool z.has) ∧
    w.cell? ⟨b, 14, none⟩ = some (.int .i64 z.y.kind) ∧ w.cell? ⟨b, 15, none⟩ = some (.int .u16 z.y.p.i) ∧ w.cell? ⟨b, 16, none⟩ = some (.int .u32 z.y.p.k) ∧ w.cell? ⟨b, 17, none⟩ = some (.int .u64 z.y.num) ∧ w.cell? ⟨b, 18, none⟩ = some (.int .u64 z.y.vn) ∧ w.cell? ⟨b, 19, none⟩ = some (.slice z.y.A z.y.n z.y.c) ∧
    w.cell? ⟨b, 20, none⟩ = some (.int .u64 z.y.x.id) ∧ w.cell? ⟨b, 21, none⟩ = some (.slice z.y.x.A z.y.x.m z.y.x.c) ∧ w.cell? ⟨b, 22, none⟩ = some (.slice z.y.x.B z.y.x.d z.y.x.e) ∧ w.cell? ⟨b, 23, none⟩ = some (.slice z.y.x.C z.y.x.f z.y.x.g) ∧
    w.cell? ⟨b, 24, none⟩ = some (.int .u64 z.x.id) ∧ w.cell? ⟨b, 25, none⟩ = some (.slice z.x.A z.x.m z.x.c) ∧ w.cell? ⟨b, 26, none⟩ = some (.slice z.x.B z.x.d z.x.e) ∧ w.cell? ⟨b, 27, none⟩ = some (.slice z.x.C z.x.f z.x.g) ∧ w.cell? ⟨b, 28, none⟩ = some (.slice z.A z.n z.c) := by
  have hf : ∀ j, w.cell? ⟨b, j, none⟩ = (#[.int .i64 z.kind, .int .u16 z.who.i, .int .u32 z.who.k, .int .u64 z.view, .int .u64 z.slot, .int .u64 z.num, .int .i64 z.hops, .int .u32 z.b.r, .int .u16 z.b.p.i, .int .u32 z.b.p.k, .int .u32 z.a.r, .int .u16 z.a.p.i, .int .u32 z.a.p.k, .bool z.has, .int .i64 z.y.kind, .int .u16 z.y.p.i, .int .u32 z.y.p.k, .int .u64 z.y.num, .int .u64 z.y.vn, .slice z.y.A z.y.n z.y.c, .int .u64 z.y.x.id, .slice z.y.x.A z.y.x.m z.y.x.c, .slice z.y.x.B z.y.x.d z.y.x.e, .slice z.y.x.C z.y.x.f z.y.x.g, .int .u64 z.x.id, .slice z.x.A z.x.m z.x.c, .slice z.x.B z.x.d z.x.e, .slice z.x.C z.x.f z.x.g, .slice z.A z.n z.c] : Array Value)[j]? := by
    intro j
    unfold MAt10 at h
    simp [World.cell?, h]
  exact ⟨hf 0, hf 1, hf 2, hf 3, hf 4, hf 5, hf 6, hf 7, hf 8, hf 9, hf 10, hf 11, hf 12, hf 13, hf 14, hf 15, hf 16, hf 17, hf 18, hf 19, hf 20, hf 21, hf 22, hf 23, hf 24, hf 25, hf 26, hf 27, hf 28⟩
theorem MAt10.lt (h : MAt10 w b z) : b < w.heap.size := lt_of_heap h
theorem MAt10.mk_ (w : World) (z : Mx) : MAt10 (w.alloc (.cells #[.int .i64 z.kind, .int .u16 z.who.i, .int .u32 z.who.k, .int .u64 z.view, .int .u64 z.slot, .int .u64 z.num, .int .i64 z.hops, .int .u32 z.b.r, .int .u16 z.b.p.i, .int .u32 z.b.p.k, .int .u32 z.a.r, .int .u16 z.a.p.i, .int .u32 z.a.p.k, .bool z.has, .int .i64 z.y.kind, .int .u16 z.y.p.i, .int .u32 z.y.p.k, .int .u64 z.y.num, .int .u64 z.y.vn, .slice z.y.A z.y.n z.y.c, .int .u64 z.y.x.id, .slice z.y.x.A z.y.x.m z.y.x.c, .slice z.y.x.B z.y.x.d z.y.x.e, .slice z.y.x.C z.y.x.f z.y.x.g, .int .u64 z.x.id, .slice z.x.A z.x.m z.x.c, .slice z.x.B z.x.d z.x.e, .slice z.x.C z.x.f z.x.g, .slice z.A z.n z.c] 50)) w.heap.size z := heap_alloc_new w _
theorem MAt10.alloc (h : MAt10 w b z) (o : Obj) : MAt10 (w.alloc o) b z := (Below.heap_alloc w o b h.lt).trans h
theorem MAt10.below {B : Nat} (h : MAt10 w b z) (hb : Below B w w') (hg : b < B) : MAt10 w' b z := (hb.block b hg).trans h
theorem MAt10.later (h : MAt10 w b z) (hb : Below w.heap.size w w') : MAt10 w' b z := h.below hb h.lt
theorem MAt10.fz (h : MAt10 w b z) (j : Nat) : w.frozen? ⟨b, j, none⟩ = false := frozen_of_row w b j _ _ h
theorem MAt10.turn {g : Nat} {mg : Option Nat} (h : MAt10 w b z) (ht : Turn w w' g mg) (h1 : b ≠ g) (h2 : some b ≠ mg) : MAt10 w' b z := (ht.block b h.lt h1 h2).trans h
theorem MAt10.far (h : MAt10 w b z) {a : Addr} (u : Value) (ha : b ≠ a.block) : MAt10 (w.setCell a u) b z := (heap_setCell_other w a b u ha).trans h
end
structure MSmall (z : Mx) : Prop where
  n : z.n ≤ 400
  c : CSmall z.y
  v : VSmall z.x
def zeroB : Bl := default
def zeroM : Mx := ⟨0, default, 0, 0, 0, 0, default, default, false, zX 0 zeroX, zeroX, none, 0, 0, []⟩
theorem cells_msg : Tryz.prog.cellsOf 50 = 29 := by kernel_rfl
theorem cells_bal : Tryz.prog.cellsOf 46 = 3 := by kernel_rfl
theorem size_msg : (Tryz.prog.info? 50).map (·.size) = some 29 := by kernel_rfl
theorem wpList_load_msg {ops : Array Oper} {rest : List Oper} {o : Oper} {a : Act} {w : World} {Q : Exit → Act → World → Prop} (z : Mx) (b : Nat) (hgd : o.guard = none) (x : Operand) (ho : o.op = .load 50 x)
    (hx : a.eval x = .pointer (some ⟨b, 0, none⟩)) (hg : MAt10 w b z) (h : wpList Tryz.prog ops Q rest (a.put o.dst (.agg #[.int .i64 z.kind, .int .u16 z.who.i, .int .u32 z.who.k, .int .u64 z.view, .int .u64 z.slot, .int .u64 z.num, .int .i64 z.hops, .int .u32 z.b.r, .int .u16 z.b.p.i, .int .u32 z.b.p.k, .int .u32 z.a.r, .int .u16 z.a.p.i, .int .u32 z.a.p.k, .bool z.has, .int .i64 z.y.kind, .int .u16 z.y.p.i, .int .u32 z.y.p.k, .int .u64 z.y.num, .int .u64 z.y.vn, .slice z.y.A z.y.n z.y.c, .int .u64 z.y.x.id, .slice z.y.x.A z.y.x.m z.y.x.c, .slice z.y.x.B z.y.x.d z.y.x.e, .slice z.y.x.C z.y.x.f z.y.x.g, .int .u64 z.x.id, .slice z.x.A z.x.m z.x.c, .slice z.x.B z.x.d z.x.e, .slice z.x.C z.x.f z.x.g, .slice z.A z.n z.c])) w) : wpList Tryz.prog ops Q (o :: rest) a w :=
  wpList_load_row hgd 50 x ho b hx _ (#[.int .i64 z.kind, .int .u16 z.who.i, .int .u32 z.who.k, .int .u64 z.view, .int .u64 z.slot, .int .u64 z.num, .int .i64 z.hops, .int .u32 z.b.r, .int .u16 z.b.p.i, .int .u32 z.b.p.k, .int .u32 z.a.r, .int .u16 z.a.p.i, .int .u32 z.a.p.k, .bool z.has, .int .i64 z.y.kind, .int .u16 z.y.p.i, .int .u32 z.y.p.k, .int .u64 z.y.num, .int .u64 z.y.vn, .slice z.y.A z.y.n z.y.c, .int .u64 z.y.x.id, .slice z.y.x.A z.y.x.m z.y.x.c, .slice z.y.x.B z.y.x.d z.y.x.e, .slice z.y.x.C z.y.x.f z.y.x.g, .int .u64 z.x.id, .slice z.x.A z.x.m z.x.c, .slice z.x.B z.x.d z.x.e, .slice z.x.C z.x.f z.x.g, .slice z.A z.n z.c] : Array Value) _ _ hg Tryz.underlying50 rfl size_msg h
theorem wpList_load_msg_yes {ops : Array Oper} {rest : List Oper} {o : Oper} {a : Act} {w : World} {Q : Exit → Act → World → Prop} (z : Mx) (b : Nat) (hw : Region.wanted o (yielded ops a.tmps) = true) (x : Operand) (ho : o.op = .load 50 x)
    (hx : a.eval x = .pointer (some ⟨b, 0, none⟩)) (hg : MAt10 w b z) (h : wpList Tryz.prog ops Q rest (a.put o.dst (.agg #[.int .i64 z.kind, .int .u16 z.who.i, .int .u32 z.who.k, .int .u64 z.view, .int .u64 z.slot, .int .u64 z.num, .int .i64 z.hops, .int .u32 z.b.r, .int .u16 z.b.p.i, .int .u32 z.b.p.k, .int .u32 z.a.r, .int .u16 z.a.p.i, .int .u32 z.a.p.k, .bool z.has, .int .i64 z.y.kind, .int .u16 z.y.p.i, .int .u32 z.y.p.k, .int .u64 z.y.num, .int .u64 z.y.vn, .slice z.y.A z.y.n z.y.c, .int .u64 z.y.x.id, .slice z.y.x.A z.y.x.m z.y.x.c, .slice z.y.x.B z.y.x.d z.y.x.e, .slice z.y.x.C z.y.x.f z.y.x.g, .int .u64 z.x.id, .slice z.x.A z.x.m z.x.c, .slice z.x.B z.x.d z.x.e, .slice z.x.C z.x.f z.x.g, .slice z.A z.n z.c])) w) : wpList Tryz.prog ops Q (o :: rest) a w :=
  BigFrame.wpList_want hw fun _ hK => wp_load_row 50 x ho b hx _ (#[.int .i64 z.kind, .int .u16 z.who.i, .int .u32 z.who.k, .int .u64 z.view, .int .u64 z.slot, .int .u64 z.num, .int .i64 z.hops, .int .u32 z.b.r, .int .u16 z.b.p.i, .int .u32 z.b.p.k, .int .u32 z.a.r, .int .u16 z.a.p.i, .int .u32 z.a.p.k, .bool z.has, .int .i64 z.y.kind, .int .u16 z.y.p.i, .int .u32 z.y.p.k, .int .u64 z.y.num, .int .u64 z.y.vn, .slice z.y.A z.y.n z.y.c, .int .u64 z.y.x.id, .slice z.y.x.A z.y.x.m z.y.x.c, .slice z.y.x.B z.y.x.d z.y.x.e, .slice z.y.x.C z.y.x.f z.y.x.g, .int .u64 z.x.id, .slice z.x.A z.x.m z.x.c, .slice z.x.B z.x.d z.x.e, .slice z.x.C z.x.f z.x.g, .slice z.A z.n z.c] : Array Value) _ _ hg Tryz.underlying50 rfl size_msg (hK _ _ h)
section
variable {H : Type} {enc : TypeId × Value → H} {w : World} {base : Nat}
theorem bool_cell {spare : Nat → Bool} {held : Bool} {fuel : Nat} {cs : List Value} {x : DataW H × List MemPlace} (h : DataW.trod enc Tryz.prog w base spare held fuel 4 cs = some x) : ∃ t, cs = [.bool t] := by
  obtain ⟨t, e, _⟩ := DataW.trod_bool Tryz.underlying4 h
  exact ⟨t, e⟩
theorem trod_struct12 {spare : Nat → Bool} {held : Bool} {P : Program} {t : TypeId} {f0 f1 f2 f3 f4 f5 f6 f7 f8 f9 f10 f11 : Field} {fuel : Nat} {cs : List Value} {x : DataW H × List MemPlace} (ht : P.underlying t = some (.struct #[f0, f1, f2, f3, f4, f5, f6, f7, f8, f9, f10, f11])) (h : DataW.trod enc P w base spare held fuel t cs = some x) :
    ∃ y0 y1 y2 y3 y4 y5 y6 y7 y8 y9 y10 y11 n, cs.length = P.cellsOf t ∧ DataW.trod enc P w base spare held n f0.type ((cs.drop f0.offset).take (P.cellsOf f0.type)) = some y0 ∧ DataW.trod enc P w base spare held n f1.type ((cs.drop f1.offset).take (P.cellsOf f1.type)) = some y1 ∧ DataW.trod enc P w base spare held n f2.type ((cs.drop f2.offset).take (P.cellsOf f2.type)) = some y2 ∧ DataW.trod enc P w base spare held n f3.type ((cs.drop f3.offset).take (P.cellsOf f3.type)) = some y3 ∧ DataW.trod enc P w base spare held n f4.type ((cs.drop f4.offset).take (P.cellsOf f4.type)) = some y4 ∧ DataW.trod enc P w base spare held n f5.type ((cs.drop f5.offset).take (P.cellsOf f5.type)) = some y5 ∧ DataW.trod enc P w base spare held n f6.type ((cs.drop f6.offset).take (P.cellsOf f6.type)) = some y6 ∧ DataW.trod enc P w base spare held n f7.type ((cs.drop f7.offset).take (P.cellsOf f7.type)) = some y7 ∧ DataW.trod enc P w base spare held n f8.type ((cs.drop f8.offset).take (P.cellsOf f8.type)) = some y8 ∧ DataW.trod enc P w base spare held n f9.type ((cs.drop f9.offset).take (P.cellsOf f9.type)) = some y9 ∧ DataW.trod enc P w base spare held n f10.type ((cs.drop f10.offset).take (P.cellsOf f10.type)) = some y10 ∧ DataW.trod enc P w base spare held n f11.type ((cs.drop f11.offset).take (P.cellsOf f11.type)) = some y11 := by
  obtain ⟨xs, n, _, rfl, hl, hlen, hf⟩ := DataW.trod_struct ht h
  match xs, hlen with
  | [y0, y1, y2, y3, y4, y5, y6, y7, y8, y9, y10, y11], _ => exact ⟨y0, y1, y2, y3, y4, y5, y6, y7, y8, y9, y10, y11, n, hl, by simpa using hf 0 f0 rfl, by simpa using hf 1 f1 rfl, by simpa using hf 2 f2 rfl, by simpa using hf 3 f3 rfl, by simpa using hf 4 f4 rfl, by simpa using hf 5 f5 rfl, by simpa using hf 6 f6 rfl, by simpa using hf 7 f7 rfl, by simpa using hf 8 f8 rfl, by simpa using hf 9 f9 rfl, by simpa using hf 10 f10 rfl, by simpa using hf 11 f11 rfl⟩
set_option maxRecDepth 100000 in
theorem cmd_cells {fuel : Nat} {cs : List Value} {x : DataW H × List MemPlace} (h : DataW.trod enc Tryz.prog w base (fun _ => true) true fuel 48 cs = some x) :
    ∃ y : Cx, cs = [.int .i64 y.kind, .int .u16 y.p.i, .int .u32 y.p.k, .int .u64 y.num, .int .u64 y.vn, .slice y.A y.n y.c, .int .u64 y.x.id, .slice y.x.A y.x.m y.x.c, .slice y.x.B y.x.d y.x.e, .slice y.x.C y.x.f y.x.g] ∧ CxIn w w.heap.size y := by
  obtain ⟨y0, y1, y2, y3, y4, y5, n, hl, h0, h1, h2, h3, h4, h5⟩ := trod_struct6 Tryz.underlying48 h
  rw [cells_cmd] at hl
  match cs, hl with
  | [a0, a1, a2, a3, a4, a5, a6, a7, a8, a9], _ =>
    simp only [cells_int, cells_pid, cells_u64, cells_bytes, cells_view, List.drop_zero, List.drop_succ_cons, List.take_succ_cons, List.take_zero] at h0 h1 h2 h3 h4 h5
    obtain ⟨k, e0, _, hw⟩ := DataW.trod_int Tryz.underlying3 h0
    have hk := wf_i64 hw
    obtain ⟨i, c, e1, hi, hc⟩ := pid_cells h1
    obtain ⟨s, e2, hs⟩ := u64_cell h2
    obtain ⟨t, e3, ht⟩ := u64_cell h3
    obtain ⟨A, m, q, l, e4, hB, hnq, hq⟩ := bytes_cell h4
    obtain ⟨z, e5, hz⟩ := view_cells h5
    simp only [vwC, List.cons.injEq, and_true] at e0 e1 e2 e3 e5
    obtain ⟨rfl, rfl⟩ := e1
    obtain ⟨rfl, rfl, rfl, rfl⟩ := e5
    subst e0 e2 e3 e4
    exact ⟨⟨k, ⟨i, c, hi, hc⟩, s, t, A, m, q, l, z⟩, rfl, ⟨hk.1, hk.2, hs, ht, hB, hnq, hq, hz⟩⟩
set_option maxRecDepth 100000 in
set_option maxHeartbeats 4000000 in
theorem open_msg {r : Reach} {b0 : Nat} {v : Value} {d : DataW H} {p : List MemPlace} (hv : Value.okWide Tryz.prog w r b0 50 v) (h : DataW.Trod enc Tryz.prog w base (fun _ => true) true 50 v d p) :
    ∃ z : Mx, v = .agg #[.int .i64 z.kind, .int .u16 z.who.i, .int .u32 z.who.k, .int .u64 z.view, .int .u64 z.slot, .int .u64 z.num, .int .i64 z.hops, .int .u32 z.b.r, .int .u16 z.b.p.i, .int .u32 z.b.p.k, .int .u32 z.a.r, .int .u16 z.a.p.i, .int .u32 z.a.p.k, .bool z.has, .int .i64 z.y.kind, .int .u16 z.y.p.i, .int .u32 z.y.p.k, .int .u64 z.y.num, .int .u64 z.y.vn, .slice z.y.A z.y.n z.y.c, .int .u64 z.y.x.id, .slice z.y.x.A z.y.x.m z.y.x.c, .slice z.y.x.B z.y.x.d z.y.x.e, .slice z.y.x.C z.y.x.f z.y.x.g, .int .u64 z.x.id, .slice z.x.A z.x.m z.x.c, .slice z.x.B z.x.d z.x.e, .slice z.x.C z.x.f z.x.g, .slice z.A z.n z.c] ∧ MxIn w w.heap.size z := by
  obtain ⟨cs, rfl, _⟩ := okWide_struct Tryz.underlying50 hv
  obtain ⟨fuel, hf⟩ := h
  obtain ⟨y0, y1, y2, y3, y4, y5, y6, y7, y8, y9, y10, y11, n, hl, h0, h1, h2, h3, h4, h5, h6, h7, h8, h9, h10, h11⟩ := trod_struct12 Tryz.underlying50 hf
  rw [cells_msg] at hl
  generalize hcs : (Value.agg cs).cells.toList = L at hl h0 h1 h2 h3 h4 h5 h6 h7 h8 h9 h10 h11
  match L, hl with
  | [a0, a1, a2, a3, a4, a5, a6, a7, a8, a9, a10, a11, a12, a13, a14, a15, a16, a17, a18, a19, a20, a21, a22, a23, a24, a25, a26, a27, a28], _ =>
    simp only [cells_int, cells_pid, cells_u64, cells_bytes, cells_view, cells_bal, cells_bool, cells_cmd, List.drop_zero, List.drop_succ_cons, List.take_succ_cons, List.take_zero] at h0 h1 h2 h3 h4 h5 h6 h7 h8 h9 h10 h11
    obtain ⟨k, e0, _, hw⟩ := DataW.trod_int Tryz.underlying3 h0
    have hk := wf_i64 hw
    obtain ⟨i, c, e1, hi, hc⟩ := pid_cells h1
    obtain ⟨s, e2, hs⟩ := u64_cell h2
    obtain ⟨t, e3, ht⟩ := u64_cell h3
    obtain ⟨u, e4, hu⟩ := u64_cell h4
    obtain ⟨o, e5, _, hwo⟩ := DataW.trod_int Tryz.underlying3 h5
    have ho := wf_i64 hwo
    obtain ⟨br, bi, bc, e6, hbr, hbi, hbc⟩ := ballot_cells h6
    obtain ⟨ar, ai, ac, e7, har, hai, hac⟩ := ballot_cells h7
    obtain ⟨f, e8⟩ := bool_cell h8
    obtain ⟨y, e9, hy⟩ := cmd_cells h9
    obtain ⟨z, e10, hz⟩ := view_cells h10
    obtain ⟨A, m, q, l, e11, hB, hnq, hq⟩ := bytes_cell h11
    simp only [vwC, List.cons.injEq, and_true] at e0 e1 e2 e3 e4 e5 e6 e7 e8 e9 e10
    obtain ⟨rfl, rfl⟩ := e1
    obtain ⟨rfl, rfl, rfl⟩ := e6
    obtain ⟨rfl, rfl, rfl⟩ := e7
    obtain ⟨rfl, rfl, rfl, rfl, rfl, rfl, rfl, rfl, rfl, rfl⟩ := e9
    obtain ⟨rfl, rfl, rfl, rfl⟩ := e10
    subst e0 e2 e3 e4 e5 e8 e11
    refine ⟨⟨k, ⟨i, c, hi, hc⟩, s, t, u, o, ⟨br, ⟨bi, bc, hbi, hbc⟩, hbr⟩, ⟨ar, ⟨ai, ac, hai, hac⟩, har⟩, f, y, z, A, m, q, l⟩, ?_, ⟨hk.1, hk.2, hs, ht, hu, ho.1, ho.2, hy, hz, hB, hnq, hq⟩⟩
    obtain ⟨l'⟩ := cs
    simp [Value.cells] at hcs
    rw [hcs]
end
end Go.Proofs.YtjmkecaljkcoiaaGreatDoor
