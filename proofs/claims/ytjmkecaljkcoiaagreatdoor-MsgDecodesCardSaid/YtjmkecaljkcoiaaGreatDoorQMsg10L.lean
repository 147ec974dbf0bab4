import Derived.Test.YtjmkecaljkcoiaaGreatDoorQMsg10
import Derived.Test.YtjmkecaljkcoiaaGreatDoorQRfN
import Derived.Test.YtjmkecaljkcoiaaGreatDoorQRfT
import Derived.Test.YtjmkecaljkcoiaaGreatDoorQMsg10M
namespace Go.Proofs.YtjmkecaljkcoiaaGreatDoor
open Go.RowKit Go.Maps
set_option linter.unusedVariables false
set_option linter.unusedSimpArgs false
structure DcG (w W : World) (b : Nat) (s : RS) (g : Nat) (z : Mx) : Prop where
  v : MAt10 W g z
  r : MAt10 W w.heap.size zeroM
  own : MxOwn W (g + 1) z
  num : MNums z
  sm : MSmall z
  rd : RfAt W b s.l s.t
  turn : Turn w W b none
  lo : b + 1 ≤ g
section
variable {w W W' : World} {b g : Nat} {s s' : RS} {z : Mx}
theorem DcG.read (h : DcG w W b s g z) (hb : w.heap.size < b) (ht : Turn W W' b none) (hr : RfAt W' b s'.l s'.t) : DcG w W' b s' g z :=
  ⟨h.v.turn ht (by have := h.lo; omega) (by simp), h.r.turn ht (by omega) (by simp), h.own.turnLow ht (by have := h.lo; omega), h.num, h.sm, hr, h.turn.trans ht (Mov.refl _ _), h.lo⟩
theorem DcG.later (h : DcG w W b s g z) (hb : Below W.heap.size W W') : DcG w W' b s g z :=
  ⟨h.v.later hb, h.r.later hb, h.own.later hb, h.num, h.sm, h.rd.later hb, h.turn.later hb, h.lo⟩
theorem DcG.setWho (h : DcG w W b s g z) (hb : w.heap.size < b) (p : Pr) : DcG w ((W.setCell ⟨g, 1, none⟩ (.int .u16 p.i)).setCell ⟨g, 2, none⟩ (.int .u32 p.k)) b s g ⟨z.kind, p, z.view, z.slot, z.num, z.hops, z.b, z.a, z.has, z.y, z.x, z.A, z.n, z.c, z.l⟩ := by
  have hl := h.lo
  have v1 := heap_setCell_same _ g 1 _ _ (.int .u16 p.i) h.v
  have v2 := heap_setCell_same _ g 2 _ _ (.int .u32 p.k) v1
  have hne : w.heap.size ≠ g := by omega
  have hbg : b < g := by omega
  have hwg : w.heap.size ≤ g := by omega
  have q0 := h.r
  have q1 := MAt10.far q0 (a := ⟨g, 1, none⟩) (.int .u16 p.i) hne
  have q2 := MAt10.far q1 (a := ⟨g, 2, none⟩) (.int .u32 p.k) hne
  have o0 := (⟨h.own.cm, h.own.vw, h.own.bs⟩ : MxOwn W (g + 1) ⟨z.kind, p, z.view, z.slot, z.num, z.hops, z.b, z.a, z.has, z.y, z.x, z.A, z.n, z.c, z.l⟩)
  have o1 := MxOwn.setFar o0 (a := ⟨g, 1, none⟩) (.int .u16 p.i) (Nat.lt_succ_self g)
  have o2 := MxOwn.setFar o1 (a := ⟨g, 2, none⟩) (.int .u32 p.k) (Nat.lt_succ_self g)
  have d0 := h.rd
  have d1 := RfAt.other d0 (p := ⟨g, 1, none⟩) hbg (.int .u16 p.i)
  have d2 := RfAt.other d1 (p := ⟨g, 2, none⟩) hbg (.int .u32 p.k)
  have t0 := h.turn
  have t1 := Turn.setNew t0 (p := ⟨g, 1, none⟩) hwg (.int .u16 p.i)
  have t2 := Turn.setNew t1 (p := ⟨g, 2, none⟩) hwg (.int .u32 p.k)
  exact ⟨v2, q2, o2, ⟨h.num.k0, h.num.k1, h.num.hv, h.num.hs, h.num.hn, h.num.h0, h.num.h1, h.num.cm, h.num.vw⟩, ⟨h.sm.n, h.sm.c, h.sm.v⟩, d2, t2, hl⟩
theorem DcG.setView (h : DcG w W b s g z) (hb : w.heap.size < b) (n : Nat) (hn : n < 18446744073709551616) : DcG w (W.setCell ⟨g, 3, none⟩ (.int .u64 n)) b s g ⟨z.kind, z.who, n, z.slot, z.num, z.hops, z.b, z.a, z.has, z.y, z.x, z.A, z.n, z.c, z.l⟩ := by
  have hl := h.lo
  have v1 := heap_setCell_same _ g 3 _ _ (.int .u64 n) h.v
  have hne : w.heap.size ≠ g := by omega
  have hbg : b < g := by omega
  have hwg : w.heap.size ≤ g := by omega
  have q0 := h.r
  have q1 := MAt10.far q0 (a := ⟨g, 3, none⟩) (.int .u64 n) hne
  have o0 := (⟨h.own.cm, h.own.vw, h.own.bs⟩ : MxOwn W (g + 1) ⟨z.kind, z.who, n, z.slot, z.num, z.hops, z.b, z.a, z.has, z.y, z.x, z.A, z.n, z.c, z.l⟩)
  have o1 := MxOwn.setFar o0 (a := ⟨g, 3, none⟩) (.int .u64 n) (Nat.lt_succ_self g)
  have d0 := h.rd
  have d1 := RfAt.other d0 (p := ⟨g, 3, none⟩) hbg (.int .u64 n)
  have t0 := h.turn
  have t1 := Turn.setNew t0 (p := ⟨g, 3, none⟩) hwg (.int .u64 n)
  exact ⟨v1, q1, o1, ⟨h.num.k0, h.num.k1, hn, h.num.hs, h.num.hn, h.num.h0, h.num.h1, h.num.cm, h.num.vw⟩, ⟨h.sm.n, h.sm.c, h.sm.v⟩, d1, t1, hl⟩
theorem DcG.setSlot (h : DcG w W b s g z) (hb : w.heap.size < b) (n : Nat) (hn : n < 18446744073709551616) : DcG w (W.setCell ⟨g, 4, none⟩ (.int .u64 n)) b s g ⟨z.kind, z.who, z.view, n, z.num, z.hops, z.b, z.a, z.has, z.y, z.x, z.A, z.n, z.c, z.l⟩ := by
  have hl := h.lo
  have v1 := heap_setCell_same _ g 4 _ _ (.int .u64 n) h.v
  have hne : w.heap.size ≠ g := by omega
  have hbg : b < g := by omega
  have hwg : w.heap.size ≤ g := by omega
  have q0 := h.r
  have q1 := MAt10.far q0 (a := ⟨g, 4, none⟩) (.int .u64 n) hne
  have o0 := (⟨h.own.cm, h.own.vw, h.own.bs⟩ : MxOwn W (g + 1) ⟨z.kind, z.who, z.view, n, z.num, z.hops, z.b, z.a, z.has, z.y, z.x, z.A, z.n, z.c, z.l⟩)
  have o1 := MxOwn.setFar o0 (a := ⟨g, 4, none⟩) (.int .u64 n) (Nat.lt_succ_self g)
  have d0 := h.rd
  have d1 := RfAt.other d0 (p := ⟨g, 4, none⟩) hbg (.int .u64 n)
  have t0 := h.turn
  have t1 := Turn.setNew t0 (p := ⟨g, 4, none⟩) hwg (.int .u64 n)
  exact ⟨v1, q1, o1, ⟨h.num.k0, h.num.k1, h.num.hv, hn, h.num.hn, h.num.h0, h.num.h1, h.num.cm, h.num.vw⟩, ⟨h.sm.n, h.sm.c, h.sm.v⟩, d1, t1, hl⟩
theorem DcG.setNum (h : DcG w W b s g z) (hb : w.heap.size < b) (n : Nat) (hn : n < 18446744073709551616) : DcG w (W.setCell ⟨g, 5, none⟩ (.int .u64 n)) b s g ⟨z.kind, z.who, z.view, z.slot, n, z.hops, z.b, z.a, z.has, z.y, z.x, z.A, z.n, z.c, z.l⟩ := by
  have hl := h.lo
  have v1 := heap_setCell_same _ g 5 _ _ (.int .u64 n) h.v
  have hne : w.heap.size ≠ g := by omega
  have hbg : b < g := by omega
  have hwg : w.heap.size ≤ g := by omega
  have q0 := h.r
  have q1 := MAt10.far q0 (a := ⟨g, 5, none⟩) (.int .u64 n) hne
  have o0 := (⟨h.own.cm, h.own.vw, h.own.bs⟩ : MxOwn W (g + 1) ⟨z.kind, z.who, z.view, z.slot, n, z.hops, z.b, z.a, z.has, z.y, z.x, z.A, z.n, z.c, z.l⟩)
  have o1 := MxOwn.setFar o0 (a := ⟨g, 5, none⟩) (.int .u64 n) (Nat.lt_succ_self g)
  have d0 := h.rd
  have d1 := RfAt.other d0 (p := ⟨g, 5, none⟩) hbg (.int .u64 n)
  have t0 := h.turn
  have t1 := Turn.setNew t0 (p := ⟨g, 5, none⟩) hwg (.int .u64 n)
  exact ⟨v1, q1, o1, ⟨h.num.k0, h.num.k1, h.num.hv, h.num.hs, hn, h.num.h0, h.num.h1, h.num.cm, h.num.vw⟩, ⟨h.sm.n, h.sm.c, h.sm.v⟩, d1, t1, hl⟩
theorem DcG.setHops (h : DcG w W b s g z) (hb : w.heap.size < b) (n : Nat) (hn : n ≤ 4) : DcG w (W.setCell ⟨g, 6, none⟩ (.int .i64 n)) b s g ⟨z.kind, z.who, z.view, z.slot, z.num, (n : Int), z.b, z.a, z.has, z.y, z.x, z.A, z.n, z.c, z.l⟩ := by
  have hl := h.lo
  have v1 := heap_setCell_same _ g 6 _ _ (.int .i64 n) h.v
  have hne : w.heap.size ≠ g := by omega
  have hbg : b < g := by omega
  have hwg : w.heap.size ≤ g := by omega
  have q0 := h.r
  have q1 := MAt10.far q0 (a := ⟨g, 6, none⟩) (.int .i64 n) hne
  have o0 := (⟨h.own.cm, h.own.vw, h.own.bs⟩ : MxOwn W (g + 1) ⟨z.kind, z.who, z.view, z.slot, z.num, (n : Int), z.b, z.a, z.has, z.y, z.x, z.A, z.n, z.c, z.l⟩)
  have o1 := MxOwn.setFar o0 (a := ⟨g, 6, none⟩) (.int .i64 n) (Nat.lt_succ_self g)
  have d0 := h.rd
  have d1 := RfAt.other d0 (p := ⟨g, 6, none⟩) hbg (.int .i64 n)
  have t0 := h.turn
  have t1 := Turn.setNew t0 (p := ⟨g, 6, none⟩) hwg (.int .i64 n)
  exact ⟨v1, q1, o1, ⟨h.num.k0, h.num.k1, h.num.hv, h.num.hs, h.num.hn, (by show (-9223372036854775808 : Int) ≤ (n : Int); omega), (by show (n : Int) ≤ 9223372036854775807; omega), h.num.cm, h.num.vw⟩, ⟨h.sm.n, h.sm.c, h.sm.v⟩, d1, t1, hl⟩
theorem DcG.setB (h : DcG w W b s g z) (hb : w.heap.size < b) (p : Bl) : DcG w (((W.setCell ⟨g, 7, none⟩ (.int .u32 p.r)).setCell ⟨g, 8, none⟩ (.int .u16 p.p.i)).setCell ⟨g, 9, none⟩ (.int .u32 p.p.k)) b s g ⟨z.kind, z.who, z.view, z.slot, z.num, z.hops, p, z.a, z.has, z.y, z.x, z.A, z.n, z.c, z.l⟩ := by
  have hl := h.lo
  have v1 := heap_setCell_same _ g 7 _ _ (.int .u32 p.r) h.v
  have v2 := heap_setCell_same _ g 8 _ _ (.int .u16 p.p.i) v1
  have v3 := heap_setCell_same _ g 9 _ _ (.int .u32 p.p.k) v2
  have hne : w.heap.size ≠ g := by omega
  have hbg : b < g := by omega
  have hwg : w.heap.size ≤ g := by omega
  have q0 := h.r
  have q1 := MAt10.far q0 (a := ⟨g, 7, none⟩) (.int .u32 p.r) hne
  have q2 := MAt10.far q1 (a := ⟨g, 8, none⟩) (.int .u16 p.p.i) hne
  have q3 := MAt10.far q2 (a := ⟨g, 9, none⟩) (.int .u32 p.p.k) hne
  have o0 := (⟨h.own.cm, h.own.vw, h.own.bs⟩ : MxOwn W (g + 1) ⟨z.kind, z.who, z.view, z.slot, z.num, z.hops, p, z.a, z.has, z.y, z.x, z.A, z.n, z.c, z.l⟩)
  have o1 := MxOwn.setFar o0 (a := ⟨g, 7, none⟩) (.int .u32 p.r) (Nat.lt_succ_self g)
  have o2 := MxOwn.setFar o1 (a := ⟨g, 8, none⟩) (.int .u16 p.p.i) (Nat.lt_succ_self g)
  have o3 := MxOwn.setFar o2 (a := ⟨g, 9, none⟩) (.int .u32 p.p.k) (Nat.lt_succ_self g)
  have d0 := h.rd
  have d1 := RfAt.other d0 (p := ⟨g, 7, none⟩) hbg (.int .u32 p.r)
  have d2 := RfAt.other d1 (p := ⟨g, 8, none⟩) hbg (.int .u16 p.p.i)
  have d3 := RfAt.other d2 (p := ⟨g, 9, none⟩) hbg (.int .u32 p.p.k)
  have t0 := h.turn
  have t1 := Turn.setNew t0 (p := ⟨g, 7, none⟩) hwg (.int .u32 p.r)
  have t2 := Turn.setNew t1 (p := ⟨g, 8, none⟩) hwg (.int .u16 p.p.i)
  have t3 := Turn.setNew t2 (p := ⟨g, 9, none⟩) hwg (.int .u32 p.p.k)
  exact ⟨v3, q3, o3, ⟨h.num.k0, h.num.k1, h.num.hv, h.num.hs, h.num.hn, h.num.h0, h.num.h1, h.num.cm, h.num.vw⟩, ⟨h.sm.n, h.sm.c, h.sm.v⟩, d3, t3, hl⟩
theorem DcG.setA (h : DcG w W b s g z) (hb : w.heap.size < b) (p : Bl) : DcG w (((W.setCell ⟨g, 10, none⟩ (.int .u32 p.r)).setCell ⟨g, 11, none⟩ (.int .u16 p.p.i)).setCell ⟨g, 12, none⟩ (.int .u32 p.p.k)) b s g ⟨z.kind, z.who, z.view, z.slot, z.num, z.hops, z.b, p, z.has, z.y, z.x, z.A, z.n, z.c, z.l⟩ := by
  have hl := h.lo
  have v1 := heap_setCell_same _ g 10 _ _ (.int .u32 p.r) h.v
  have v2 := heap_setCell_same _ g 11 _ _ (.int .u16 p.p.i) v1
  have v3 := heap_setCell_same _ g 12 _ _ (.int .u32 p.p.k) v2
  have hne : w.heap.size ≠ g := by omega
  have hbg : b < g := by omega
  have hwg : w.heap.size ≤ g := by omega
  have q0 := h.r
  have q1 := MAt10.far q0 (a := ⟨g, 10, none⟩) (.int .u32 p.r) hne
  have q2 := MAt10.far q1 (a := ⟨g, 11, none⟩) (.int .u16 p.p.i) hne
  have q3 := MAt10.far q2 (a := ⟨g, 12, none⟩) (.int .u32 p.p.k) hne
  have o0 := (⟨h.own.cm, h.own.vw, h.own.bs⟩ : MxOwn W (g + 1) ⟨z.kind, z.who, z.view, z.slot, z.num, z.hops, z.b, p, z.has, z.y, z.x, z.A, z.n, z.c, z.l⟩)
  have o1 := MxOwn.setFar o0 (a := ⟨g, 10, none⟩) (.int .u32 p.r) (Nat.lt_succ_self g)
  have o2 := MxOwn.setFar o1 (a := ⟨g, 11, none⟩) (.int .u16 p.p.i) (Nat.lt_succ_self g)
  have o3 := MxOwn.setFar o2 (a := ⟨g, 12, none⟩) (.int .u32 p.p.k) (Nat.lt_succ_self g)
  have d0 := h.rd
  have d1 := RfAt.other d0 (p := ⟨g, 10, none⟩) hbg (.int .u32 p.r)
  have d2 := RfAt.other d1 (p := ⟨g, 11, none⟩) hbg (.int .u16 p.p.i)
  have d3 := RfAt.other d2 (p := ⟨g, 12, none⟩) hbg (.int .u32 p.p.k)
  have t0 := h.turn
  have t1 := Turn.setNew t0 (p := ⟨g, 10, none⟩) hwg (.int .u32 p.r)
  have t2 := Turn.setNew t1 (p := ⟨g, 11, none⟩) hwg (.int .u16 p.p.i)
  have t3 := Turn.setNew t2 (p := ⟨g, 12, none⟩) hwg (.int .u32 p.p.k)
  exact ⟨v3, q3, o3, ⟨h.num.k0, h.num.k1, h.num.hv, h.num.hs, h.num.hn, h.num.h0, h.num.h1, h.num.cm, h.num.vw⟩, ⟨h.sm.n, h.sm.c, h.sm.v⟩, d3, t3, hl⟩
theorem DcG.setHas (h : DcG w W b s g z) (hb : w.heap.size < b) (t : Bool) : DcG w (W.setCell ⟨g, 13, none⟩ (.bool t)) b s g ⟨z.kind, z.who, z.view, z.slot, z.num, z.hops, z.b, z.a, t, z.y, z.x, z.A, z.n, z.c, z.l⟩ := by
  have hl := h.lo
  have v1 := heap_setCell_same _ g 13 _ _ (.bool t) h.v
  have hne : w.heap.size ≠ g := by omega
  have hbg : b < g := by omega
  have hwg : w.heap.size ≤ g := by omega
  have q0 := h.r
  have q1 := MAt10.far q0 (a := ⟨g, 13, none⟩) (.bool t) hne
  have o0 := (⟨h.own.cm, h.own.vw, h.own.bs⟩ : MxOwn W (g + 1) ⟨z.kind, z.who, z.view, z.slot, z.num, z.hops, z.b, z.a, t, z.y, z.x, z.A, z.n, z.c, z.l⟩)
  have o1 := MxOwn.setFar o0 (a := ⟨g, 13, none⟩) (.bool t) (Nat.lt_succ_self g)
  have d0 := h.rd
  have d1 := RfAt.other d0 (p := ⟨g, 13, none⟩) hbg (.bool t)
  have t0 := h.turn
  have t1 := Turn.setNew t0 (p := ⟨g, 13, none⟩) hwg (.bool t)
  exact ⟨v1, q1, o1, ⟨h.num.k0, h.num.k1, h.num.hv, h.num.hs, h.num.hn, h.num.h0, h.num.h1, h.num.cm, h.num.vw⟩, ⟨h.sm.n, h.sm.c, h.sm.v⟩, d1, t1, hl⟩
set_option maxHeartbeats 4000000 in
theorem DcG.setC (h : DcG w W b s g z) (hb : w.heap.size < b) (y : Cx) (ho : CxOwn W (g + 1) y) (hs : CSmall y) (hk : CNums y) : DcG w ((((((((((W.setCell ⟨g, 14, none⟩ (.int .i64 y.kind)).setCell ⟨g, 15, none⟩ (.int .u16 y.p.i)).setCell ⟨g, 16, none⟩ (.int .u32 y.p.k)).setCell ⟨g, 17, none⟩ (.int .u64 y.num)).setCell ⟨g, 18, none⟩ (.int .u64 y.vn)).setCell ⟨g, 19, none⟩ (.slice y.A y.n y.c)).setCell ⟨g, 20, none⟩ (.int .u64 y.x.id)).setCell ⟨g, 21, none⟩ (.slice y.x.A y.x.m y.x.c)).setCell ⟨g, 22, none⟩ (.slice y.x.B y.x.d y.x.e)).setCell ⟨g, 23, none⟩ (.slice y.x.C y.x.f y.x.g)) b s g ⟨z.kind, z.who, z.view, z.slot, z.num, z.hops, z.b, z.a, z.has, y, z.x, z.A, z.n, z.c, z.l⟩ := by
  have hl := h.lo
  have v1 : MAt10 (W.setCell ⟨g, 14, none⟩ (.int .i64 y.kind)) g ⟨z.kind, z.who, z.view, z.slot, z.num, z.hops, z.b, z.a, z.has, ⟨y.kind, ⟨z.y.p.i, z.y.p.k, z.y.p.hi, z.y.p.hk⟩, z.y.num, z.y.vn, z.y.A, z.y.n, z.y.c, z.y.l, ⟨z.y.x.id, z.y.x.A, z.y.x.m, z.y.x.c, z.y.x.l, z.y.x.B, z.y.x.d, z.y.x.e, z.y.x.q, z.y.x.C, z.y.x.f, z.y.x.g, z.y.x.r⟩⟩, z.x, z.A, z.n, z.c, z.l⟩ := heap_setCell_same _ g 14 _ _ (.int .i64 y.kind) h.v
  have v2 : MAt10 ((W.setCell ⟨g, 14, none⟩ (.int .i64 y.kind)).setCell ⟨g, 15, none⟩ (.int .u16 y.p.i)) g ⟨z.kind, z.who, z.view, z.slot, z.num, z.hops, z.b, z.a, z.has, ⟨y.kind, ⟨y.p.i, z.y.p.k, y.p.hi, z.y.p.hk⟩, z.y.num, z.y.vn, z.y.A, z.y.n, z.y.c, z.y.l, ⟨z.y.x.id, z.y.x.A, z.y.x.m, z.y.x.c, z.y.x.l, z.y.x.B, z.y.x.d, z.y.x.e, z.y.x.q, z.y.x.C, z.y.x.f, z.y.x.g, z.y.x.r⟩⟩, z.x, z.A, z.n, z.c, z.l⟩ := heap_setCell_same _ g 15 _ _ (.int .u16 y.p.i) v1
  have v3 : MAt10 (((W.setCell ⟨g, 14, none⟩ (.int .i64 y.kind)).setCell ⟨g, 15, none⟩ (.int .u16 y.p.i)).setCell ⟨g, 16, none⟩ (.int .u32 y.p.k)) g ⟨z.kind, z.who, z.view, z.slot, z.num, z.hops, z.b, z.a, z.has, ⟨y.kind, ⟨y.p.i, y.p.k, y.p.hi, y.p.hk⟩, z.y.num, z.y.vn, z.y.A, z.y.n, z.y.c, z.y.l, ⟨z.y.x.id, z.y.x.A, z.y.x.m, z.y.x.c, z.y.x.l, z.y.x.B, z.y.x.d, z.y.x.e, z.y.x.q, z.y.x.C, z.y.x.f, z.y.x.g, z.y.x.r⟩⟩, z.x, z.A, z.n, z.c, z.l⟩ := heap_setCell_same _ g 16 _ _ (.int .u32 y.p.k) v2
  have v4 : MAt10 ((((W.setCell ⟨g, 14, none⟩ (.int .i64 y.kind)).setCell ⟨g, 15, none⟩ (.int .u16 y.p.i)).setCell ⟨g, 16, none⟩ (.int .u32 y.p.k)).setCell ⟨g, 17, none⟩ (.int .u64 y.num)) g ⟨z.kind, z.who, z.view, z.slot, z.num, z.hops, z.b, z.a, z.has, ⟨y.kind, ⟨y.p.i, y.p.k, y.p.hi, y.p.hk⟩, y.num, z.y.vn, z.y.A, z.y.n, z.y.c, z.y.l, ⟨z.y.x.id, z.y.x.A, z.y.x.m, z.y.x.c, z.y.x.l, z.y.x.B, z.y.x.d, z.y.x.e, z.y.x.q, z.y.x.C, z.y.x.f, z.y.x.g, z.y.x.r⟩⟩, z.x, z.A, z.n, z.c, z.l⟩ := heap_setCell_same _ g 17 _ _ (.int .u64 y.num) v3
  have v5 : MAt10 (((((W.setCell ⟨g, 14, none⟩ (.int .i64 y.kind)).setCell ⟨g, 15, none⟩ (.int .u16 y.p.i)).setCell ⟨g, 16, none⟩ (.int .u32 y.p.k)).setCell ⟨g, 17, none⟩ (.int .u64 y.num)).setCell ⟨g, 18, none⟩ (.int .u64 y.vn)) g ⟨z.kind, z.who, z.view, z.slot, z.num, z.hops, z.b, z.a, z.has, ⟨y.kind, ⟨y.p.i, y.p.k, y.p.hi, y.p.hk⟩, y.num, y.vn, z.y.A, z.y.n, z.y.c, z.y.l, ⟨z.y.x.id, z.y.x.A, z.y.x.m, z.y.x.c, z.y.x.l, z.y.x.B, z.y.x.d, z.y.x.e, z.y.x.q, z.y.x.C, z.y.x.f, z.y.x.g, z.y.x.r⟩⟩, z.x, z.A, z.n, z.c, z.l⟩ := heap_setCell_same _ g 18 _ _ (.int .u64 y.vn) v4
  have v6 : MAt10 ((((((W.setCell ⟨g, 14, none⟩ (.int .i64 y.kind)).setCell ⟨g, 15, none⟩ (.int .u16 y.p.i)).setCell ⟨g, 16, none⟩ (.int .u32 y.p.k)).setCell ⟨g, 17, none⟩ (.int .u64 y.num)).setCell ⟨g, 18, none⟩ (.int .u64 y.vn)).setCell ⟨g, 19, none⟩ (.slice y.A y.n y.c)) g ⟨z.kind, z.who, z.view, z.slot, z.num, z.hops, z.b, z.a, z.has, ⟨y.kind, ⟨y.p.i, y.p.k, y.p.hi, y.p.hk⟩, y.num, y.vn, y.A, y.n, y.c, y.l, ⟨z.y.x.id, z.y.x.A, z.y.x.m, z.y.x.c, z.y.x.l, z.y.x.B, z.y.x.d, z.y.x.e, z.y.x.q, z.y.x.C, z.y.x.f, z.y.x.g, z.y.x.r⟩⟩, z.x, z.A, z.n, z.c, z.l⟩ := heap_setCell_same _ g 19 _ _ (.slice y.A y.n y.c) v5
  have v7 : MAt10 (((((((W.setCell ⟨g, 14, none⟩ (.int .i64 y.kind)).setCell ⟨g, 15, none⟩ (.int .u16 y.p.i)).setCell ⟨g, 16, none⟩ (.int .u32 y.p.k)).setCell ⟨g, 17, none⟩ (.int .u64 y.num)).setCell ⟨g, 18, none⟩ (.int .u64 y.vn)).setCell ⟨g, 19, none⟩ (.slice y.A y.n y.c)).setCell ⟨g, 20, none⟩ (.int .u64 y.x.id)) g ⟨z.kind, z.who, z.view, z.slot, z.num, z.hops, z.b, z.a, z.has, ⟨y.kind, ⟨y.p.i, y.p.k, y.p.hi, y.p.hk⟩, y.num, y.vn, y.A, y.n, y.c, y.l, ⟨y.x.id, z.y.x.A, z.y.x.m, z.y.x.c, z.y.x.l, z.y.x.B, z.y.x.d, z.y.x.e, z.y.x.q, z.y.x.C, z.y.x.f, z.y.x.g, z.y.x.r⟩⟩, z.x, z.A, z.n, z.c, z.l⟩ := heap_setCell_same _ g 20 _ _ (.int .u64 y.x.id) v6
  have v8 : MAt10 ((((((((W.setCell ⟨g, 14, none⟩ (.int .i64 y.kind)).setCell ⟨g, 15, none⟩ (.int .u16 y.p.i)).setCell ⟨g, 16, none⟩ (.int .u32 y.p.k)).setCell ⟨g, 17, none⟩ (.int .u64 y.num)).setCell ⟨g, 18, none⟩ (.int .u64 y.vn)).setCell ⟨g, 19, none⟩ (.slice y.A y.n y.c)).setCell ⟨g, 20, none⟩ (.int .u64 y.x.id)).setCell ⟨g, 21, none⟩ (.slice y.x.A y.x.m y.x.c)) g ⟨z.kind, z.who, z.view, z.slot, z.num, z.hops, z.b, z.a, z.has, ⟨y.kind, ⟨y.p.i, y.p.k, y.p.hi, y.p.hk⟩, y.num, y.vn, y.A, y.n, y.c, y.l, ⟨y.x.id, y.x.A, y.x.m, y.x.c, y.x.l, z.y.x.B, z.y.x.d, z.y.x.e, z.y.x.q, z.y.x.C, z.y.x.f, z.y.x.g, z.y.x.r⟩⟩, z.x, z.A, z.n, z.c, z.l⟩ := heap_setCell_same _ g 21 _ _ (.slice y.x.A y.x.m y.x.c) v7
  have v9 : MAt10 (((((((((W.setCell ⟨g, 14, none⟩ (.int .i64 y.kind)).setCell ⟨g, 15, none⟩ (.int .u16 y.p.i)).setCell ⟨g, 16, none⟩ (.int .u32 y.p.k)).setCell ⟨g, 17, none⟩ (.int .u64 y.num)).setCell ⟨g, 18, none⟩ (.int .u64 y.vn)).setCell ⟨g, 19, none⟩ (.slice y.A y.n y.c)).setCell ⟨g, 20, none⟩ (.int .u64 y.x.id)).setCell ⟨g, 21, none⟩ (.slice y.x.A y.x.m y.x.c)).setCell ⟨g, 22, none⟩ (.slice y.x.B y.x.d y.x.e)) g ⟨z.kind, z.who, z.view, z.slot, z.num, z.hops, z.b, z.a, z.has, ⟨y.kind, ⟨y.p.i, y.p.k, y.p.hi, y.p.hk⟩, y.num, y.vn, y.A, y.n, y.c, y.l, ⟨y.x.id, y.x.A, y.x.m, y.x.c, y.x.l, y.x.B, y.x.d, y.x.e, y.x.q, z.y.x.C, z.y.x.f, z.y.x.g, z.y.x.r⟩⟩, z.x, z.A, z.n, z.c, z.l⟩ := heap_setCell_same _ g 22 _ _ (.slice y.x.B y.x.d y.x.e) v8
  have v10 : MAt10 ((((((((((W.setCell ⟨g, 14, none⟩ (.int .i64 y.kind)).setCell ⟨g, 15, none⟩ (.int .u16 y.p.i)).setCell ⟨g, 16, none⟩ (.int .u32 y.p.k)).setCell ⟨g, 17, none⟩ (.int .u64 y.num)).setCell ⟨g, 18, none⟩ (.int .u64 y.vn)).setCell ⟨g, 19, none⟩ (.slice y.A y.n y.c)).setCell ⟨g, 20, none⟩ (.int .u64 y.x.id)).setCell ⟨g, 21, none⟩ (.slice y.x.A y.x.m y.x.c)).setCell ⟨g, 22, none⟩ (.slice y.x.B y.x.d y.x.e)).setCell ⟨g, 23, none⟩ (.slice y.x.C y.x.f y.x.g)) g ⟨z.kind, z.who, z.view, z.slot, z.num, z.hops, z.b, z.a, z.has, ⟨y.kind, ⟨y.p.i, y.p.k, y.p.hi, y.p.hk⟩, y.num, y.vn, y.A, y.n, y.c, y.l, ⟨y.x.id, y.x.A, y.x.m, y.x.c, y.x.l, y.x.B, y.x.d, y.x.e, y.x.q, y.x.C, y.x.f, y.x.g, y.x.r⟩⟩, z.x, z.A, z.n, z.c, z.l⟩ := heap_setCell_same _ g 23 _ _ (.slice y.x.C y.x.f y.x.g) v9
  have hne : w.heap.size ≠ g := by omega
  have hbg : b < g := by omega
  have hwg : w.heap.size ≤ g := by omega
  have q0 := h.r
  have q1 := MAt10.far q0 (a := ⟨g, 14, none⟩) (.int .i64 y.kind) hne
  have q2 := MAt10.far q1 (a := ⟨g, 15, none⟩) (.int .u16 y.p.i) hne
  have q3 := MAt10.far q2 (a := ⟨g, 16, none⟩) (.int .u32 y.p.k) hne
  have q4 := MAt10.far q3 (a := ⟨g, 17, none⟩) (.int .u64 y.num) hne
  have q5 := MAt10.far q4 (a := ⟨g, 18, none⟩) (.int .u64 y.vn) hne
  have q6 := MAt10.far q5 (a := ⟨g, 19, none⟩) (.slice y.A y.n y.c) hne
  have q7 := MAt10.far q6 (a := ⟨g, 20, none⟩) (.int .u64 y.x.id) hne
  have q8 := MAt10.far q7 (a := ⟨g, 21, none⟩) (.slice y.x.A y.x.m y.x.c) hne
  have q9 := MAt10.far q8 (a := ⟨g, 22, none⟩) (.slice y.x.B y.x.d y.x.e) hne
  have q10 := MAt10.far q9 (a := ⟨g, 23, none⟩) (.slice y.x.C y.x.f y.x.g) hne
  have o0 := (⟨ho, h.own.vw, h.own.bs⟩ : MxOwn W (g + 1) ⟨z.kind, z.who, z.view, z.slot, z.num, z.hops, z.b, z.a, z.has, y, z.x, z.A, z.n, z.c, z.l⟩)
  have o1 := MxOwn.setFar o0 (a := ⟨g, 14, none⟩) (.int .i64 y.kind) (Nat.lt_succ_self g)
  have o2 := MxOwn.setFar o1 (a := ⟨g, 15, none⟩) (.int .u16 y.p.i) (Nat.lt_succ_self g)
  have o3 := MxOwn.setFar o2 (a := ⟨g, 16, none⟩) (.int .u32 y.p.k) (Nat.lt_succ_self g)
  have o4 := MxOwn.setFar o3 (a := ⟨g, 17, none⟩) (.int .u64 y.num) (Nat.lt_succ_self g)
  have o5 := MxOwn.setFar o4 (a := ⟨g, 18, none⟩) (.int .u64 y.vn) (Nat.lt_succ_self g)
  have o6 := MxOwn.setFar o5 (a := ⟨g, 19, none⟩) (.slice y.A y.n y.c) (Nat.lt_succ_self g)
  have o7 := MxOwn.setFar o6 (a := ⟨g, 20, none⟩) (.int .u64 y.x.id) (Nat.lt_succ_self g)
  have o8 := MxOwn.setFar o7 (a := ⟨g, 21, none⟩) (.slice y.x.A y.x.m y.x.c) (Nat.lt_succ_self g)
  have o9 := MxOwn.setFar o8 (a := ⟨g, 22, none⟩) (.slice y.x.B y.x.d y.x.e) (Nat.lt_succ_self g)
  have o10 := MxOwn.setFar o9 (a := ⟨g, 23, none⟩) (.slice y.x.C y.x.f y.x.g) (Nat.lt_succ_self g)
  have d0 := h.rd
  have d1 := RfAt.other d0 (p := ⟨g, 14, none⟩) hbg (.int .i64 y.kind)
  have d2 := RfAt.other d1 (p := ⟨g, 15, none⟩) hbg (.int .u16 y.p.i)
  have d3 := RfAt.other d2 (p := ⟨g, 16, none⟩) hbg (.int .u32 y.p.k)
  have d4 := RfAt.other d3 (p := ⟨g, 17, none⟩) hbg (.int .u64 y.num)
  have d5 := RfAt.other d4 (p := ⟨g, 18, none⟩) hbg (.int .u64 y.vn)
  have d6 := RfAt.other d5 (p := ⟨g, 19, none⟩) hbg (.slice y.A y.n y.c)
  have d7 := RfAt.other d6 (p := ⟨g, 20, none⟩) hbg (.int .u64 y.x.id)
  have d8 := RfAt.other d7 (p := ⟨g, 21, none⟩) hbg (.slice y.x.A y.x.m y.x.c)
  have d9 := RfAt.other d8 (p := ⟨g, 22, none⟩) hbg (.slice y.x.B y.x.d y.x.e)
  have d10 := RfAt.other d9 (p := ⟨g, 23, none⟩) hbg (.slice y.x.C y.x.f y.x.g)
  have t0 := h.turn
  have t1 := Turn.setNew t0 (p := ⟨g, 14, none⟩) hwg (.int .i64 y.kind)
  have t2 := Turn.setNew t1 (p := ⟨g, 15, none⟩) hwg (.int .u16 y.p.i)
  have t3 := Turn.setNew t2 (p := ⟨g, 16, none⟩) hwg (.int .u32 y.p.k)
  have t4 := Turn.setNew t3 (p := ⟨g, 17, none⟩) hwg (.int .u64 y.num)
  have t5 := Turn.setNew t4 (p := ⟨g, 18, none⟩) hwg (.int .u64 y.vn)
  have t6 := Turn.setNew t5 (p := ⟨g, 19, none⟩) hwg (.slice y.A y.n y.c)
  have t7 := Turn.setNew t6 (p := ⟨g, 20, none⟩) hwg (.int .u64 y.x.id)
  have t8 := Turn.setNew t7 (p := ⟨g, 21, none⟩) hwg (.slice y.x.A y.x.m y.x.c)
  have t9 := Turn.setNew t8 (p := ⟨g, 22, none⟩) hwg (.slice y.x.B y.x.d y.x.e)
  have t10 := Turn.setNew t9 (p := ⟨g, 23, none⟩) hwg (.slice y.x.C y.x.f y.x.g)
  exact ⟨v10, q10, o10, ⟨h.num.k0, h.num.k1, h.num.hv, h.num.hs, h.num.hn, h.num.h0, h.num.h1, hk, h.num.vw⟩, ⟨h.sm.n, hs, h.sm.v⟩, d10, t10, hl⟩
set_option maxHeartbeats 4000000 in
theorem DcG.setV (h : DcG w W b s g z) (hb : w.heap.size < b) (x : Vw) (ho : VwOwn W (g + 1) x) (hs : VSmall x) (hk : x.id < 18446744073709551616) : DcG w ((((W.setCell ⟨g, 24, none⟩ (.int .u64 x.id)).setCell ⟨g, 25, none⟩ (.slice x.A x.m x.c)).setCell ⟨g, 26, none⟩ (.slice x.B x.d x.e)).setCell ⟨g, 27, none⟩ (.slice x.C x.f x.g)) b s g ⟨z.kind, z.who, z.view, z.slot, z.num, z.hops, z.b, z.a, z.has, z.y, x, z.A, z.n, z.c, z.l⟩ := by
  have hl := h.lo
  have v1 : MAt10 (W.setCell ⟨g, 24, none⟩ (.int .u64 x.id)) g ⟨z.kind, z.who, z.view, z.slot, z.num, z.hops, z.b, z.a, z.has, z.y, ⟨x.id, z.x.A, z.x.m, z.x.c, z.x.l, z.x.B, z.x.d, z.x.e, z.x.q, z.x.C, z.x.f, z.x.g, z.x.r⟩, z.A, z.n, z.c, z.l⟩ := heap_setCell_same _ g 24 _ _ (.int .u64 x.id) h.v
  have v2 : MAt10 ((W.setCell ⟨g, 24, none⟩ (.int .u64 x.id)).setCell ⟨g, 25, none⟩ (.slice x.A x.m x.c)) g ⟨z.kind, z.who, z.view, z.slot, z.num, z.hops, z.b, z.a, z.has, z.y, ⟨x.id, x.A, x.m, x.c, x.l, z.x.B, z.x.d, z.x.e, z.x.q, z.x.C, z.x.f, z.x.g, z.x.r⟩, z.A, z.n, z.c, z.l⟩ := heap_setCell_same _ g 25 _ _ (.slice x.A x.m x.c) v1
  have v3 : MAt10 (((W.setCell ⟨g, 24, none⟩ (.int .u64 x.id)).setCell ⟨g, 25, none⟩ (.slice x.A x.m x.c)).setCell ⟨g, 26, none⟩ (.slice x.B x.d x.e)) g ⟨z.kind, z.who, z.view, z.slot, z.num, z.hops, z.b, z.a, z.has, z.y, ⟨x.id, x.A, x.m, x.c, x.l, x.B, x.d, x.e, x.q, z.x.C, z.x.f, z.x.g, z.x.r⟩, z.A, z.n, z.c, z.l⟩ := heap_setCell_same _ g 26 _ _ (.slice x.B x.d x.e) v2
  have v4 : MAt10 ((((W.setCell ⟨g, 24, none⟩ (.int .u64 x.id)).setCell ⟨g, 25, none⟩ (.slice x.A x.m x.c)).setCell ⟨g, 26, none⟩ (.slice x.B x.d x.e)).setCell ⟨g, 27, none⟩ (.slice x.C x.f x.g)) g ⟨z.kind, z.who, z.view, z.slot, z.num, z.hops, z.b, z.a, z.has, z.y, ⟨x.id, x.A, x.m, x.c, x.l, x.B, x.d, x.e, x.q, x.C, x.f, x.g, x.r⟩, z.A, z.n, z.c, z.l⟩ := heap_setCell_same _ g 27 _ _ (.slice x.C x.f x.g) v3
  have hne : w.heap.size ≠ g := by omega
  have hbg : b < g := by omega
  have hwg : w.heap.size ≤ g := by omega
  have q0 := h.r
  have q1 := MAt10.far q0 (a := ⟨g, 24, none⟩) (.int .u64 x.id) hne
  have q2 := MAt10.far q1 (a := ⟨g, 25, none⟩) (.slice x.A x.m x.c) hne
  have q3 := MAt10.far q2 (a := ⟨g, 26, none⟩) (.slice x.B x.d x.e) hne
  have q4 := MAt10.far q3 (a := ⟨g, 27, none⟩) (.slice x.C x.f x.g) hne
  have o0 := (⟨h.own.cm, ho, h.own.bs⟩ : MxOwn W (g + 1) ⟨z.kind, z.who, z.view, z.slot, z.num, z.hops, z.b, z.a, z.has, z.y, x, z.A, z.n, z.c, z.l⟩)
  have o1 := MxOwn.setFar o0 (a := ⟨g, 24, none⟩) (.int .u64 x.id) (Nat.lt_succ_self g)
  have o2 := MxOwn.setFar o1 (a := ⟨g, 25, none⟩) (.slice x.A x.m x.c) (Nat.lt_succ_self g)
  have o3 := MxOwn.setFar o2 (a := ⟨g, 26, none⟩) (.slice x.B x.d x.e) (Nat.lt_succ_self g)
  have o4 := MxOwn.setFar o3 (a := ⟨g, 27, none⟩) (.slice x.C x.f x.g) (Nat.lt_succ_self g)
  have d0 := h.rd
  have d1 := RfAt.other d0 (p := ⟨g, 24, none⟩) hbg (.int .u64 x.id)
  have d2 := RfAt.other d1 (p := ⟨g, 25, none⟩) hbg (.slice x.A x.m x.c)
  have d3 := RfAt.other d2 (p := ⟨g, 26, none⟩) hbg (.slice x.B x.d x.e)
  have d4 := RfAt.other d3 (p := ⟨g, 27, none⟩) hbg (.slice x.C x.f x.g)
  have t0 := h.turn
  have t1 := Turn.setNew t0 (p := ⟨g, 24, none⟩) hwg (.int .u64 x.id)
  have t2 := Turn.setNew t1 (p := ⟨g, 25, none⟩) hwg (.slice x.A x.m x.c)
  have t3 := Turn.setNew t2 (p := ⟨g, 26, none⟩) hwg (.slice x.B x.d x.e)
  have t4 := Turn.setNew t3 (p := ⟨g, 27, none⟩) hwg (.slice x.C x.f x.g)
  exact ⟨v4, q4, o4, ⟨h.num.k0, h.num.k1, h.num.hv, h.num.hs, h.num.hn, h.num.h0, h.num.h1, h.num.cm, hk⟩, ⟨h.sm.n, h.sm.c, hs⟩, d4, t4, hl⟩
theorem DcG.setD (h : DcG w W b s g z) (hb : w.heap.size < b) (A : Option Addr) (n c : Nat) (l : List UInt8) (ho : OwnB W (g + 1) (.slice A n c) n l) (hs : n ≤ 400) : DcG w (W.setCell ⟨g, 28, none⟩ (.slice A n c)) b s g ⟨z.kind, z.who, z.view, z.slot, z.num, z.hops, z.b, z.a, z.has, z.y, z.x, A, n, c, l⟩ := by
  have hl := h.lo
  have v1 := heap_setCell_same _ g 28 _ _ (.slice A n c) h.v
  have hne : w.heap.size ≠ g := by omega
  have hbg : b < g := by omega
  have hwg : w.heap.size ≤ g := by omega
  have q0 := h.r
  have q1 := MAt10.far q0 (a := ⟨g, 28, none⟩) (.slice A n c) hne
  have o0 := (⟨h.own.cm, h.own.vw, ho⟩ : MxOwn W (g + 1) ⟨z.kind, z.who, z.view, z.slot, z.num, z.hops, z.b, z.a, z.has, z.y, z.x, A, n, c, l⟩)
  have o1 := MxOwn.setFar o0 (a := ⟨g, 28, none⟩) (.slice A n c) (Nat.lt_succ_self g)
  have d0 := h.rd
  have d1 := RfAt.other d0 (p := ⟨g, 28, none⟩) hbg (.slice A n c)
  have t0 := h.turn
  have t1 := Turn.setNew t0 (p := ⟨g, 28, none⟩) hwg (.slice A n c)
  exact ⟨v1, q1, o1, ⟨h.num.k0, h.num.k1, h.num.hv, h.num.hs, h.num.hn, h.num.h0, h.num.h1, h.num.cm, h.num.vw⟩, ⟨hs, h.sm.c, h.sm.v⟩, d1, t1, hl⟩
end
end Go.Proofs.YtjmkecaljkcoiaaGreatDoor
namespace Go.Proofs.YtjmkecaljkcoiaaGreatDoor
open Go.RowKit
set_option linter.unusedVariables false
theorem prdR_len : ∀ (n : Nat) (l : List UInt8), (prd n l).2.1.length ≤ l.length
  | 0, l => Nat.le_refl _
  | n + 1, l => by
    rw [prd]
    split
    · have := prdR_len n (l.drop (pidG l).2.2.1)
      simp only [List.length_drop] at this
      exact Nat.le_trans this (by omega)
    · exact Nat.le_refl _
theorem pidsS_len (most : Nat) (s : RS) : (pidsS most s).2.l.length ≤ s.l.length := by
  unfold pidsS
  split
  · split
    · have := prdR_len (getF s.l).1 (s.l.drop (getF s.l).2.1)
      simp only [List.length_drop] at this
      exact Nat.le_trans this (by omega)
    · exact Nat.le_refl _
  · exact Nat.le_refl _
theorem bytS_len (most : Nat) (s : RS) : (bytS most s).2.l.length ≤ s.l.length := by
  unfold bytS
  split
  · split
    · unfold bytR
      simp only [List.length_drop]
      omega
    · exact Nat.le_refl _
  · exact Nat.le_refl _
theorem somR_len (mem : List Pr) : ∀ (n : Nat) (s : RS), (somR mem n s).2.l.length ≤ s.l.length
  | 0, s => Nat.le_refl _
  | n + 1, s => by
    rw [somR]
    have h1 := numS_len (mem.length - 1) s
    split
    · exact Nat.le_trans (somR_len mem n _) h1
    · exact h1
theorem someS_len (mem : List Pr) (s : RS) : (someS mem s).2.l.length ≤ s.l.length := by
  unfold someS
  have h1 := numS_len 24 s
  split
  · exact h1
  · split
    · exact h1
    · exact Nat.le_trans (somR_len mem _ _) h1
theorem lvsR_len (mem : List Pr) : ∀ (n : Nat) (s : RS), (lvsR mem n s).2.l.length ≤ s.l.length
  | 0, s => Nat.le_refl _
  | n + 1, s => by
    rw [lvsR]
    have h1 := someS_len mem s
    split
    · exact Nat.le_trans (lvsR_len mem n _) h1
    · exact h1
theorem partsS_len (s : RS) : (partsS s).2.l.length ≤ s.l.length := by
  unfold partsS
  exact Nat.le_trans (someS_len _ _) (Nat.le_trans (lvsR_len _ _ _) (Nat.le_trans (numS_len _ _) (Nat.le_trans (pidsS_len _ _) (numS_len _ _))))
theorem viewS_len (s : RS) : (viewS s).2.l.length ≤ s.l.length := by
  unfold viewS
  have h1 := partsS_len s
  split
  · split <;> exact h1
  · exact h1
theorem bareS_len (s : RS) : (bareS s).2.l.length ≤ s.l.length := by
  unfold bareS
  have h1 := numS_len 3 s
  split
  · unfold partsC
    exact Nat.le_trans (bytS_len _ _) (Nat.le_trans (numS_len _ _) (Nat.le_trans (numS_len _ _) (Nat.le_trans (pidQ_len _) h1)))
  · split
    · exact Nat.le_trans (viewS_len _) h1
    · exact h1
theorem cmdS_len (s : RS) : (cmdS s).2.l.length ≤ s.l.length := by
  unfold cmdS
  have h1 := bareS_len s
  split
  · split <;> exact h1
  · exact h1
end Go.Proofs.YtjmkecaljkcoiaaGreatDoor
