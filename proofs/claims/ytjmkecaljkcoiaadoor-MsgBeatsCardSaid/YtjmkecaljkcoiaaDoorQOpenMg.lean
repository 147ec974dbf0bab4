import Derived.Test.YtjmkecaljkcoiaaDoorQCmd6
import Derived.Test.YtjmkecaljkcoiaaDoorQOpenC
namespace Go.Proofs.YtjmkecaljkcoiaaDoor
open Go.RowKit Go.ChangeShapes Go.WideShapes Go.ChangeAt
set_option linter.unusedVariables false
set_option linter.unusedSimpArgs false
structure Mx where
  kind : Int
  who : Pr
  view : Nat
  slot : Nat
  num : Nat
  hops : Int
  b : Bl
  a : Bl
  has : Bool
  y : Cx
  x : Vw
  A : Option Addr
  n : Nat
  c : Nat
  l : List UInt8
def Mx.m (z : Mx) : Ms := ⟨z.kind, z.who, z.view, z.slot, z.num, z.hops, z.b, z.a, z.has, z.y.m, z.x.v, z.l⟩
structure MxIn (w : World) (B0 : Nat) (z : Mx) : Prop where
  k0 : -9223372036854775808 ≤ z.kind
  k1 : z.kind ≤ 9223372036854775807
  hv : z.view < 18446744073709551616
  hs : z.slot < 18446744073709551616
  hn : z.num < 18446744073709551616
  h0 : -9223372036854775808 ≤ z.hops
  h1 : z.hops ≤ 9223372036854775807
  cm : CxIn w B0 z.y
  vw : VwIn w B0 z.x
  bs : Bs w B0 z.A z.n z.l
  nc : z.n ≤ z.c
  room : z.c ≤ maxLen
theorem MxIn.below {w w' : World} {B0 : Nat} {z : Mx} (h : MxIn w B0 z) (hb : Below B0 w w') : MxIn w' B0 z := ⟨h.k0, h.k1, h.hv, h.hs, h.hn, h.h0, h.h1, h.cm.below hb, h.vw.below hb, h.bs.below hb, h.nc, h.room⟩
theorem MxIn.more {w : World} {B0 B1 : Nat} {z : Mx} (h : MxIn w B0 z) (hb : B0 ≤ B1) : MxIn w B1 z := ⟨h.k0, h.k1, h.hv, h.hs, h.hn, h.h0, h.h1, h.cm.more hb, h.vw.more hb, h.bs.more hb, h.nc, h.room⟩
def MAt10 (w : World) (b : Nat) (z : Mx) : Prop := w.heap[b]? = some (.cells #[.int .i64 z.kind, .int .u16 (z.who.i : Int), .int .u32 (z.who.k : Int), .int .u64 (z.view : Int), .int .u64 (z.slot : Int), .int .u64 (z.num : Int), .int .i64 z.hops, .int .u32 (z.b.r : Int), .int .u16 (z.b.p.i : Int), .int .u32 (z.b.p.k : Int), .int .u32 (z.a.r : Int), .int .u16 (z.a.p.i : Int), .int .u32 (z.a.p.k : Int), .bool z.has, .int .i64 z.y.kind, .int .u16 (z.y.p.i : Int), .int .u32 (z.y.p.k : Int), .int .u64 (z.y.num : Int), .int .u64 (z.y.vn : Int), .slice z.y.A z.y.n z.y.c, .int .u64 (z.y.x.id : Int), .slice z.y.x.A z.y.x.m z.y.x.c, .slice z.y.x.B z.y.x.d z.y.x.e, .slice z.y.x.C z.y.x.f z.y.x.g, .int .u64 (z.x.id : Int), .slice z.x.A z.x.m z.x.c, .slice z.x.B z.x.d z.x.e, .slice z.x.C z.x.f z.x.g, .slice z.A z.n z.c] 37)
section
variable {w w' : World} {b : Nat} {z : Mx}
theorem MAt10.cells (h : MAt10 w b z) : w.cell? ⟨b, 0, none⟩ = some (.int .i64 z.kind) ∧ w.cell? ⟨b, 1, none⟩ = some (.int .u16 (z.who.i : Int)) ∧ w.cell? ⟨b, 2, none⟩ = some (.int .u32 (z.who.k : Int)) ∧ w.cell? ⟨b, 3, none⟩ = some (.int .u64 (z.view : Int)) ∧
    w.cell? ⟨b, 4, none⟩ = some (.int .u64 (z.slot : Int)) ∧ w.cell? ⟨b, 5, none⟩ = some (.int .u64 (z.num : Int)) ∧ w.cell? ⟨b, 6, none⟩ = some (.int .i64 z.hops) ∧ w.cell? ⟨b, 7, none⟩ = some (.int .u32 (z.b.r : Int)) ∧ w.cell? ⟨b, 8, none⟩ = some (.int .u16 (z.b.p.i : Int)) ∧ w.cell? ⟨b, 9, none⟩ = some (.int .u32 (z.b.p.k : Int)) ∧
    w.cell? ⟨b, 10, none⟩ = some (.int .u32 (z.a.r : Int)) ∧ w.cell? ⟨b, 11, none⟩ = some (.int .u16 (z.a.p.i : Int)) ∧ w.cell? ⟨b, 12, none⟩ = some (.int .u32 (z.a.p.k : Int)) ∧ w.cell? ⟨b, 13, none⟩ = some (.bool z.has) ∧
    w.cell? ⟨b, 14, none⟩ = some (.int .i64 z.y.kind) ∧ w.cell? ⟨b, 15, none⟩ = some (.int .u16 (z.y.p.i : Int)) ∧ w.cell? ⟨b, 16, none⟩ = some (.int .u32 (z.y.p.k : Int)) ∧ w.cell? ⟨b, 17, none⟩ = some (.int .u64 (z.y.num : Int)) ∧ w.cell? ⟨b, 18, none⟩ = some (.int .u64 (z.y.vn : Int)) ∧ w.cell? ⟨b, 19, none⟩ = some (.slice z.y.A z.y.n z.y.c) ∧
    w.cell? ⟨b, 20, none⟩ = some (.int .u64 (z.y.x.id : Int)) ∧ w.cell? ⟨b, 21, none⟩ = some (.slice z.y.x.A z.y.x.m z.y.x.c) ∧ w.cell? ⟨b, 22, none⟩ = some (.slice z.y.x.B z.y.x.d z.y.x.e) ∧ w.cell? ⟨b, 23, none⟩ = some (.slice z.y.x.C z.y.x.f z.y.x.g) ∧
    w.cell? ⟨b, 24, none⟩ = some (.int .u64 (z.x.id : Int)) ∧ w.cell? ⟨b, 25, none⟩ = some (.slice z.x.A z.x.m z.x.c) ∧ w.cell? ⟨b, 26, none⟩ = some (.slice z.x.B z.x.d z.x.e) ∧ w.cell? ⟨b, 27, none⟩ = some (.slice z.x.C z.x.f z.x.g) ∧ w.cell? ⟨b, 28, none⟩ = some (.slice z.A z.n z.c) := by
  have hf : ∀ j, w.cell? ⟨b, j, none⟩ = (#[.int .i64 z.kind, .int .u16 (z.who.i : Int), .int .u32 (z.who.k : Int), .int .u64 (z.view : Int), .int .u64 (z.slot : Int), .int .u64 (z.num : Int), .int .i64 z.hops, .int .u32 (z.b.r : Int), .int .u16 (z.b.p.i : Int), .int .u32 (z.b.p.k : Int), .int .u32 (z.a.r : Int), .int .u16 (z.a.p.i : Int), .int .u32 (z.a.p.k : Int), .bool z.has, .int .i64 z.y.kind, .int .u16 (z.y.p.i : Int), .int .u32 (z.y.p.k : Int), .int .u64 (z.y.num : Int), .int .u64 (z.y.vn : Int), .slice z.y.A z.y.n z.y.c, .int .u64 (z.y.x.id : Int), .slice z.y.x.A z.y.x.m z.y.x.c, .slice z.y.x.B z.y.x.d z.y.x.e, .slice z.y.x.C z.y.x.f z.y.x.g, .int .u64 (z.x.id : Int), .slice z.x.A z.x.m z.x.c, .slice z.x.B z.x.d z.x.e, .slice z.x.C z.x.f z.x.g, .slice z.A z.n z.c] : Array Value)[j]? := by
    intro j
    unfold MAt10 at h
    simp [World.cell?, h]
  exact ⟨hf 0, hf 1, hf 2, hf 3, hf 4, hf 5, hf 6, hf 7, hf 8, hf 9, hf 10, hf 11, hf 12, hf 13, hf 14, hf 15, hf 16, hf 17, hf 18, hf 19, hf 20, hf 21, hf 22, hf 23, hf 24, hf 25, hf 26, hf 27, hf 28⟩
theorem MAt10.lt (h : MAt10 w b z) : b < w.heap.size := lt_of_heap h
theorem MAt10.mk_ (w : World) (z : Mx) : MAt10 (w.alloc (.cells #[.int .i64 z.kind, .int .u16 (z.who.i : Int), .int .u32 (z.who.k : Int), .int .u64 (z.view : Int), .int .u64 (z.slot : Int), .int .u64 (z.num : Int), .int .i64 z.hops, .int .u32 (z.b.r : Int), .int .u16 (z.b.p.i : Int), .int .u32 (z.b.p.k : Int), .int .u32 (z.a.r : Int), .int .u16 (z.a.p.i : Int), .int .u32 (z.a.p.k : Int), .bool z.has, .int .i64 z.y.kind, .int .u16 (z.y.p.i : Int), .int .u32 (z.y.p.k : Int), .int .u64 (z.y.num : Int), .int .u64 (z.y.vn : Int), .slice z.y.A z.y.n z.y.c, .int .u64 (z.y.x.id : Int), .slice z.y.x.A z.y.x.m z.y.x.c, .slice z.y.x.B z.y.x.d z.y.x.e, .slice z.y.x.C z.y.x.f z.y.x.g, .int .u64 (z.x.id : Int), .slice z.x.A z.x.m z.x.c, .slice z.x.B z.x.d z.x.e, .slice z.x.C z.x.f z.x.g, .slice z.A z.n z.c] 37)) w.heap.size z := heap_alloc_new w _
theorem MAt10.alloc (h : MAt10 w b z) (o : Obj) : MAt10 (w.alloc o) b z := (Below.heap_alloc w o b h.lt).trans h
theorem MAt10.below {B : Nat} (h : MAt10 w b z) (hb : Below B w w') (hg : b < B) : MAt10 w' b z := (hb.block b hg).trans h
theorem MAt10.later (h : MAt10 w b z) (hb : Below w.heap.size w w') : MAt10 w' b z := h.below hb h.lt
theorem MAt10.fz (h : MAt10 w b z) (j : Nat) : w.frozen? ⟨b, j, none⟩ = false := frozen_of_row w b j _ _ h
theorem MAt10.turn {g : Nat} {mg : Option Nat} (h : MAt10 w b z) (ht : Turn w w' g mg) (h1 : b ≠ g) (h2 : some b ≠ mg) : MAt10 w' b z := (ht.block b h.lt h1 h2).trans h
theorem MAt10.far (h : MAt10 w b z) {a : Addr} (u : Value) (ha : b ≠ a.block) : MAt10 (w.setCell a u) b z := (heap_setCell_other w a b u ha).trans h
end
structure MSmall (z : Mx) : Prop where
  n : z.n ≤ 400
  c : CSmall z.y
  v : VSmall z.x
def zeroB : Bl := default
def zeroM : Mx := ⟨0, default, 0, 0, 0, 0, default, default, false, zX 0 zeroX, zeroX, none, 0, 0, []⟩
theorem size_msg : (Tryd.prog.info? 37).map (·.size) = some 29 := by kernel_rfl
theorem wpList_load_msg {ops : Array Oper} {rest : List Oper} {o : Oper} {a : Act} {w : World} {Q : Exit → Act → World → Prop} (z : Mx) (b : Nat) (hgd : o.guard = none) (x : Operand) (ho : o.op = .load 37 x)
    (hx : a.eval x = .pointer (some ⟨b, 0, none⟩)) (hg : MAt10 w b z) (h : wpList Tryd.prog ops Q rest (a.put o.dst (.agg #[.int .i64 z.kind, .int .u16 (z.who.i : Int), .int .u32 (z.who.k : Int), .int .u64 (z.view : Int), .int .u64 (z.slot : Int), .int .u64 (z.num : Int), .int .i64 z.hops, .int .u32 (z.b.r : Int), .int .u16 (z.b.p.i : Int), .int .u32 (z.b.p.k : Int), .int .u32 (z.a.r : Int), .int .u16 (z.a.p.i : Int), .int .u32 (z.a.p.k : Int), .bool z.has, .int .i64 z.y.kind, .int .u16 (z.y.p.i : Int), .int .u32 (z.y.p.k : Int), .int .u64 (z.y.num : Int), .int .u64 (z.y.vn : Int), .slice z.y.A z.y.n z.y.c, .int .u64 (z.y.x.id : Int), .slice z.y.x.A z.y.x.m z.y.x.c, .slice z.y.x.B z.y.x.d z.y.x.e, .slice z.y.x.C z.y.x.f z.y.x.g, .int .u64 (z.x.id : Int), .slice z.x.A z.x.m z.x.c, .slice z.x.B z.x.d z.x.e, .slice z.x.C z.x.f z.x.g, .slice z.A z.n z.c])) w) : wpList Tryd.prog ops Q (o :: rest) a w :=
  wpList_load_row hgd 37 x ho b hx _ (#[.int .i64 z.kind, .int .u16 (z.who.i : Int), .int .u32 (z.who.k : Int), .int .u64 (z.view : Int), .int .u64 (z.slot : Int), .int .u64 (z.num : Int), .int .i64 z.hops, .int .u32 (z.b.r : Int), .int .u16 (z.b.p.i : Int), .int .u32 (z.b.p.k : Int), .int .u32 (z.a.r : Int), .int .u16 (z.a.p.i : Int), .int .u32 (z.a.p.k : Int), .bool z.has, .int .i64 z.y.kind, .int .u16 (z.y.p.i : Int), .int .u32 (z.y.p.k : Int), .int .u64 (z.y.num : Int), .int .u64 (z.y.vn : Int), .slice z.y.A z.y.n z.y.c, .int .u64 (z.y.x.id : Int), .slice z.y.x.A z.y.x.m z.y.x.c, .slice z.y.x.B z.y.x.d z.y.x.e, .slice z.y.x.C z.y.x.f z.y.x.g, .int .u64 (z.x.id : Int), .slice z.x.A z.x.m z.x.c, .slice z.x.B z.x.d z.x.e, .slice z.x.C z.x.f z.x.g, .slice z.A z.n z.c] : Array Value) _ _ hg Tryd.underlying37 rfl size_msg h
theorem wpList_load_msg_yes {ops : Array Oper} {rest : List Oper} {o : Oper} {a : Act} {w : World} {Q : Exit → Act → World → Prop} (z : Mx) (b : Nat) (hw : Region.wanted o (yielded ops a.tmps) = true) (x : Operand) (ho : o.op = .load 37 x)
    (hx : a.eval x = .pointer (some ⟨b, 0, none⟩)) (hg : MAt10 w b z) (h : wpList Tryd.prog ops Q rest (a.put o.dst (.agg #[.int .i64 z.kind, .int .u16 (z.who.i : Int), .int .u32 (z.who.k : Int), .int .u64 (z.view : Int), .int .u64 (z.slot : Int), .int .u64 (z.num : Int), .int .i64 z.hops, .int .u32 (z.b.r : Int), .int .u16 (z.b.p.i : Int), .int .u32 (z.b.p.k : Int), .int .u32 (z.a.r : Int), .int .u16 (z.a.p.i : Int), .int .u32 (z.a.p.k : Int), .bool z.has, .int .i64 z.y.kind, .int .u16 (z.y.p.i : Int), .int .u32 (z.y.p.k : Int), .int .u64 (z.y.num : Int), .int .u64 (z.y.vn : Int), .slice z.y.A z.y.n z.y.c, .int .u64 (z.y.x.id : Int), .slice z.y.x.A z.y.x.m z.y.x.c, .slice z.y.x.B z.y.x.d z.y.x.e, .slice z.y.x.C z.y.x.f z.y.x.g, .int .u64 (z.x.id : Int), .slice z.x.A z.x.m z.x.c, .slice z.x.B z.x.d z.x.e, .slice z.x.C z.x.f z.x.g, .slice z.A z.n z.c])) w) : wpList Tryd.prog ops Q (o :: rest) a w :=
  BigFrame.wpList_want hw fun _ hK => wp_load_row 37 x ho b hx _ (#[.int .i64 z.kind, .int .u16 (z.who.i : Int), .int .u32 (z.who.k : Int), .int .u64 (z.view : Int), .int .u64 (z.slot : Int), .int .u64 (z.num : Int), .int .i64 z.hops, .int .u32 (z.b.r : Int), .int .u16 (z.b.p.i : Int), .int .u32 (z.b.p.k : Int), .int .u32 (z.a.r : Int), .int .u16 (z.a.p.i : Int), .int .u32 (z.a.p.k : Int), .bool z.has, .int .i64 z.y.kind, .int .u16 (z.y.p.i : Int), .int .u32 (z.y.p.k : Int), .int .u64 (z.y.num : Int), .int .u64 (z.y.vn : Int), .slice z.y.A z.y.n z.y.c, .int .u64 (z.y.x.id : Int), .slice z.y.x.A z.y.x.m z.y.x.c, .slice z.y.x.B z.y.x.d z.y.x.e, .slice z.y.x.C z.y.x.f z.y.x.g, .int .u64 (z.x.id : Int), .slice z.x.A z.x.m z.x.c, .slice z.x.B z.x.d z.x.e, .slice z.x.C z.x.f z.x.g, .slice z.A z.n z.c] : Array Value) _ _ hg Tryd.underlying37 rfl size_msg (hK _ _ h)
section
variable {H : Type} {enc : TypeId × Value → H} {w : World} {base : Nat}
end
end Go.Proofs.YtjmkecaljkcoiaaDoor
