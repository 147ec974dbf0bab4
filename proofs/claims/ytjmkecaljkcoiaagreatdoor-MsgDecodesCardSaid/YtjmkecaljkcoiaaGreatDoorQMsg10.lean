import Derived.Deep.DeepCutAuto
import Derived.Test.YtjmkecaljkcoiaaGreatDoorQMsg10M
import Derived.Test.YtjmkecaljkcoiaaGreatDoorQRdU
import Derived.Test.YtjmkecaljkcoiaaGreatDoorQRdW
namespace Go.Proofs.YtjmkecaljkcoiaaGreatDoor
open Go.RowKit Go.Maps
set_option linter.unusedVariables false
set_option linter.unusedSimpArgs false
theorem rdtruth_tot (b : Nat) (s : RS) (w : World) (h : RdAt w b s.l s.t) :
    Calls Tryz.prog 106 #[.pointer (some ⟨b, 0, none⟩)] w (ReadsP w b (.bool (truS s).1) (truS s).2.l (truS s).2.t) := by
  obtain ⟨l, t⟩ := s
  dsimp only at h
  by_cases ht : t = 0
  · subst ht
    refine (rdtruth_any b l w h).mono fun e w' hw => ?_
    rcases hw with ⟨hE, v, h1, rfl, h3, h4⟩ | ⟨hE, h1, h2, h3⟩
    · have e : truS ⟨l, 0⟩ = (truV l, ⟨l.drop 1, 0⟩) := by unfold truS; rw [if_pos rfl, if_pos hE]
      rw [e]
      exact ⟨h1, h3, h4⟩
    · have e : truS ⟨l, 0⟩ = (false, ⟨l, truE l⟩) := by unfold truS; rw [if_pos rfl, if_neg hE]
      rw [e]
      exact ⟨h1, h2, h3⟩
  · rw [truS_stop (s := ⟨l, t⟩) ht]
    exact rdtruth_stop b t l w h ht
theorem rdballot_tot (b : Nat) (s : RS) (w : World) (h : RdAt w b s.l s.t) :
    Calls Tryz.prog 105 #[.pointer (some ⟨b, 0, none⟩)] w (ReadsP w b (.agg #[.int .u32 ((balS s).1.r : Int), .int .u16 ((balS s).1.p.i : Int), .int .u32 ((balS s).1.p.k : Int)]) (balS s).2.l (balS s).2.t) := by
  obtain ⟨l, t⟩ := s
  dsimp only at h
  by_cases ht : t = 0
  · subst ht
    refine (rdballot_any b l w h).mono fun e w' hw => ?_
    rcases hw with ⟨hE, v, h1, rfl, h3, h4⟩ | ⟨hE, h1, h2, h3⟩
    · have e : balS ⟨l, 0⟩ = (blOf l, ⟨(l.drop (getF l).2.1).drop (pidG (l.drop (getF l).2.1)).2.2.1, 0⟩) := by unfold balS; rw [if_pos rfl, if_pos hE]
      rw [e]
      have e2 : (blOf l).r = (getF l).1 := Nat.mod_eq_of_lt (bal_fits hE)
      refine ⟨?_, h3, h4⟩
      rw [h1, e2]
      rfl
    · have e : balS ⟨l, 0⟩ = (default, ⟨l, balE l⟩) := by unfold balS; rw [if_pos rfl, if_neg hE]
      rw [e]
      exact ⟨h1, h2, h3⟩
  · rw [balS_stop (s := ⟨l, t⟩) ht]
    exact rdballot_stop b t l w h ht
structure MxOwn (w : World) (base : Nat) (z : Mx) : Prop where
  cm : CxOwn w base z.y
  vw : VwOwn w base z.x
  bs : OwnB w base (.slice z.A z.n z.c) z.n z.l
structure MNums (z : Mx) : Prop where
  k0 : -9223372036854775808 ≤ z.kind
  k1 : z.kind ≤ 9223372036854775807
  hv : z.view < 18446744073709551616
  hs : z.slot < 18446744073709551616
  hn : z.num < 18446744073709551616
  h0 : -9223372036854775808 ≤ z.hops
  h1 : z.hops ≤ 9223372036854775807
  cm : CNums z.y
  vw : z.x.id < 18446744073709551616
section
variable {w w' : World} {base b : Nat} {z : Mx}
theorem MxOwn.later (h : MxOwn w base z) (hb : Below w.heap.size w w') : MxOwn w' base z := ⟨h.cm.later hb, h.vw.later hb, h.bs.later hb⟩
theorem MxOwn.mono {base' : Nat} (h : MxOwn w base z) (hb : base' ≤ base) : MxOwn w base' z := ⟨h.cm.mono hb, h.vw.mono hb, h.bs.mono hb⟩
theorem MxOwn.turnLow (h : MxOwn w base z) (ht : Turn w w' b none) (hb : b < base) : MxOwn w' base z :=
  ⟨h.cm.turnLow ht hb, h.vw.turnLow ht hb, OwnB.turn h.bs ht (fun g hg => ⟨by have := (OwnB.lt h.bs g hg).1; omega, by simp⟩)⟩
theorem MxOwn.in_ (h : MxOwn w base z) (hk : MNums z) : MxIn w w.heap.size z := ⟨hk.k0, hk.k1, hk.hv, hk.hs, hk.hn, hk.h0, hk.h1, h.cm.in_ hk.cm, h.vw.in_ hk.vw, h.bs.bs, OwnB.cap h.bs, OwnB.room9 h.bs⟩
theorem MxOwn.setFar (h : MxOwn w base z) {a : Addr} (u : Value) (ha : a.block < base) : MxOwn (w.setCell a u) base z := ⟨h.cm.setFar u ha, h.vw.setFar9 u ha, OwnB.setOld9 h.bs ha u⟩
end
structure StoM (W : World) (b : Nat) (z : Mx) (W' : World) : Prop where
  eq : W' = W.setRow b (#[.int .i64 z.kind, .int .u16 z.who.i, .int .u32 z.who.k, .int .u64 z.view, .int .u64 z.slot, .int .u64 z.num, .int .i64 z.hops, .int .u32 z.b.r, .int .u16 z.b.p.i, .int .u32 z.b.p.k, .int .u32 z.a.r, .int .u16 z.a.p.i, .int .u32 z.a.p.k, .bool z.has, .int .i64 z.y.kind, .int .u16 z.y.p.i, .int .u32 z.y.p.k, .int .u64 z.y.num, .int .u64 z.y.vn, .slice z.y.A z.y.n z.y.c, .int .u64 z.y.x.id, .slice z.y.x.A z.y.x.m z.y.x.c, .slice z.y.x.B z.y.x.d z.y.x.e, .slice z.y.x.C z.y.x.f z.y.x.g, .int .u64 z.x.id, .slice z.x.A z.x.m z.x.c, .slice z.x.B z.x.d z.x.e, .slice z.x.C z.x.f z.x.g, .slice z.A z.n z.c] : Array Value)
section
variable {w W W' : World} {b : Nat} {z z0 : Mx}
theorem StoM.at_ (h : StoM W b z W') (hg : MAt10 W b z0) : MAt10 W' b z := by rw [h.eq]; exact setRow_heap W b _ _ _ _ hg
theorem StoM.other (h : StoM W b z W') {k : Nat} (hk : k ≠ b) : W'.heap[k]? = W.heap[k]? := by rw [h.eq]; exact setRow_other W b k _ hk
theorem StoM.size (h : StoM W b z W') : W'.heap.size = W.heap.size := by rw [h.eq]; simp
theorem StoM.below {B : Nat} (h : StoM W b z W') (hb : Below B w W) (hB : B ≤ b) : Below B w W' := by rw [h.eq]; exact below_setRow hb hB _
theorem StoM.turn {g : Nat} (h : StoM W b z W') (ht : Turn w W g none) (hb : w.heap.size ≤ b) : Turn w W' g none := by
  rw [h.eq]
  exact ⟨ht.os, ht.tape, ht.output, by simp; exact ht.size, fun i hi h1 h2 => (setRow_other W b i _ (by omega)).trans (ht.block i hi h1 h2)⟩
theorem StoM.turn1 (h : StoM W b z W') : Turn W W' b none := by
  rw [h.eq]
  exact ⟨rfl, rfl, rfl, by simp, fun i _ h1 _ => setRow_other W b i _ h1⟩
theorem wpList_store_msg {ops : Array Oper} {rest : List Oper} {o : Oper} {a : Act} {w : World} {Q : Exit → Act → World → Prop} (z z0 : Mx) (b : Nat) (hgd : o.guard = none) (x y : Operand) (ho : o.op = .store 50 x y)
    (hx : a.eval x = .pointer (some ⟨b, 0, none⟩)) (hy : a.eval y = .agg #[.int .i64 z.kind, .int .u16 z.who.i, .int .u32 z.who.k, .int .u64 z.view, .int .u64 z.slot, .int .u64 z.num, .int .i64 z.hops, .int .u32 z.b.r, .int .u16 z.b.p.i, .int .u32 z.b.p.k, .int .u32 z.a.r, .int .u16 z.a.p.i, .int .u32 z.a.p.k, .bool z.has, .int .i64 z.y.kind, .int .u16 z.y.p.i, .int .u32 z.y.p.k, .int .u64 z.y.num, .int .u64 z.y.vn, .slice z.y.A z.y.n z.y.c, .int .u64 z.y.x.id, .slice z.y.x.A z.y.x.m z.y.x.c, .slice z.y.x.B z.y.x.d z.y.x.e, .slice z.y.x.C z.y.x.f z.y.x.g, .int .u64 z.x.id, .slice z.x.A z.x.m z.x.c, .slice z.x.B z.x.d z.x.e, .slice z.x.C z.x.f z.x.g, .slice z.A z.n z.c]) (hg : MAt10 w b z0) (h : ∀ W', StoM w b z W' → wpList Tryz.prog ops Q rest (a.put o.dst undef) W') : wpList Tryz.prog ops Q (o :: rest) a w :=
  wpList_store_row hgd 50 x y ho b (#[.int .i64 z.kind, .int .u16 z.who.i, .int .u32 z.who.k, .int .u64 z.view, .int .u64 z.slot, .int .u64 z.num, .int .i64 z.hops, .int .u32 z.b.r, .int .u16 z.b.p.i, .int .u32 z.b.p.k, .int .u32 z.a.r, .int .u16 z.a.p.i, .int .u32 z.a.p.k, .bool z.has, .int .i64 z.y.kind, .int .u16 z.y.p.i, .int .u32 z.y.p.k, .int .u64 z.y.num, .int .u64 z.y.vn, .slice z.y.A z.y.n z.y.c, .int .u64 z.y.x.id, .slice z.y.x.A z.y.x.m z.y.x.c, .slice z.y.x.B z.y.x.d z.y.x.e, .slice z.y.x.C z.y.x.f z.y.x.g, .int .u64 z.x.id, .slice z.x.A z.x.m z.x.c, .slice z.x.B z.x.d z.x.e, .slice z.x.C z.x.f z.x.g, .slice z.A z.n z.c] : Array Value) hx hy _ _ hg size_msg rfl (by simp [Value.oneCell']) (h _ ⟨rfl⟩)
end
theorem zeroM_own (w : World) (base : Nat) : MxOwn w base zeroM := ⟨⟨OwnB.nil_ _ _, zeroX_own _ _⟩, zeroX_own _ _, OwnB.nil_ _ _⟩
structure GetG (w W : World) (b : Nat) (s : RS) (g : Nat) (z : Mx) : Prop where
  v : MAt10 W g z
  r : MAt10 W w.heap.size zeroM
  own : MxOwn W (g + 1) z
  num : MNums z
  sm : MSmall z
  rd : RdAt W b s.l s.t
  turn : Turn w W b none
  lo : w.heap.size + 1 ≤ g
section
variable {w W W' : World} {b g : Nat} {s s' : RS} {z : Mx}
theorem GetG.read (h : GetG w W b s g z) (hb : b < w.heap.size) (ht : Turn W W' b none) (hr : RdAt W' b s'.l s'.t) : GetG w W' b s' g z :=
  ⟨h.v.turn ht (by have := h.lo; omega) (by simp), h.r.turn ht (by omega) (by simp), h.own.turnLow ht (by have := h.lo; omega), h.num, h.sm, hr, h.turn.trans ht (Mov.refl _ _), h.lo⟩
theorem GetG.later (h : GetG w W b s g z) (hb : Below W.heap.size W W') : GetG w W' b s g z :=
  ⟨h.v.later hb, h.r.later hb, h.own.later hb, h.num, h.sm, h.rd.later hb, h.turn.later hb, h.lo⟩
theorem GetG.setWho (h : GetG w W b s g z) (hb : b < w.heap.size) (p : Pr) : GetG w ((W.setCell ⟨g, 1, none⟩ (.int .u16 p.i)).setCell ⟨g, 2, none⟩ (.int .u32 p.k)) b s g ⟨z.kind, p, z.view, z.slot, z.num, z.hops, z.b, z.a, z.has, z.y, z.x, z.A, z.n, z.c, z.l⟩ := by
  have hl := h.lo
  have v1 := heap_setCell_same _ g 1 _ _ (.int .u16 p.i) h.v
  have v2 := heap_setCell_same _ g 2 _ _ (.int .u32 p.k) v1
  have hne : w.heap.size ≠ g := by omega
  have hbg : b < g := by omega
  have hwg : w.heap.size ≤ g := by omega
  have q0 := h.r
  have q1 := MAt10.far q0 (a := ⟨g, 1, none⟩) (.int .u16 p.i) hne
  have q2 := MAt10.far q1 (a := ⟨g, 2, none⟩) (.int .u32 p.k) hne
  have o0 := (⟨h.own.cm, h.own.vw, h.own.bs⟩ : MxOwn W (g + 1) ⟨z.kind, p, z.view, z.slot, z.num, z.hops, z.b, z.a, z.has, z.y, z.x, z.A, z.n, z.c, z.l⟩)
  have o1 := MxOwn.setFar o0 (a := ⟨g, 1, none⟩) (.int .u16 p.i) (Nat.lt_succ_self g)
  have o2 := MxOwn.setFar o1 (a := ⟨g, 2, none⟩) (.int .u32 p.k) (Nat.lt_succ_self g)
  have d0 := h.rd
  have d1 := RdAt.other d0 (p := ⟨g, 1, none⟩) hbg (.int .u16 p.i)
  have d2 := RdAt.other d1 (p := ⟨g, 2, none⟩) hbg (.int .u32 p.k)
  have t0 := h.turn
  have t1 := Turn.setNew t0 (p := ⟨g, 1, none⟩) hwg (.int .u16 p.i)
  have t2 := Turn.setNew t1 (p := ⟨g, 2, none⟩) hwg (.int .u32 p.k)
  exact ⟨v2, q2, o2, ⟨h.num.k0, h.num.k1, h.num.hv, h.num.hs, h.num.hn, h.num.h0, h.num.h1, h.num.cm, h.num.vw⟩, ⟨h.sm.n, h.sm.c, h.sm.v⟩, d2, t2, hl⟩
theorem GetG.setView (h : GetG w W b s g z) (hb : b < w.heap.size) (n : Nat) (hn : n < 18446744073709551616) : GetG w (W.setCell ⟨g, 3, none⟩ (.int .u64 n)) b s g ⟨z.kind, z.who, n, z.slot, z.num, z.hops, z.b, z.a, z.has, z.y, z.x, z.A, z.n, z.c, z.l⟩ := by
  have hl := h.lo
  have v1 := heap_setCell_same _ g 3 _ _ (.int .u64 n) h.v
  have hne : w.heap.size ≠ g := by omega
  have hbg : b < g := by omega
  have hwg : w.heap.size ≤ g := by omega
  have q0 := h.r
  have q1 := MAt10.far q0 (a := ⟨g, 3, none⟩) (.int .u64 n) hne
  have o0 := (⟨h.own.cm, h.own.vw, h.own.bs⟩ : MxOwn W (g + 1) ⟨z.kind, z.who, n, z.slot, z.num, z.hops, z.b, z.a, z.has, z.y, z.x, z.A, z.n, z.c, z.l⟩)
  have o1 := MxOwn.setFar o0 (a := ⟨g, 3, none⟩) (.int .u64 n) (Nat.lt_succ_self g)
  have d0 := h.rd
  have d1 := RdAt.other d0 (p := ⟨g, 3, none⟩) hbg (.int .u64 n)
  have t0 := h.turn
  have t1 := Turn.setNew t0 (p := ⟨g, 3, none⟩) hwg (.int .u64 n)
  exact ⟨v1, q1, o1, ⟨h.num.k0, h.num.k1, hn, h.num.hs, h.num.hn, h.num.h0, h.num.h1, h.num.cm, h.num.vw⟩, ⟨h.sm.n, h.sm.c, h.sm.v⟩, d1, t1, hl⟩
theorem GetG.setSlot (h : GetG w W b s g z) (hb : b < w.heap.size) (n : Nat) (hn : n < 18446744073709551616) : GetG w (W.setCell ⟨g, 4, none⟩ (.int .u64 n)) b s g ⟨z.kind, z.who, z.view, n, z.num, z.hops, z.b, z.a, z.has, z.y, z.x, z.A, z.n, z.c, z.l⟩ := by
  have hl := h.lo
  have v1 := heap_setCell_same _ g 4 _ _ (.int .u64 n) h.v
  have hne : w.heap.size ≠ g := by omega
  have hbg : b < g := by omega
  have hwg : w.heap.size ≤ g := by omega
  have q0 := h.r
  have q1 := MAt10.far q0 (a := ⟨g, 4, none⟩) (.int .u64 n) hne
  have o0 := (⟨h.own.cm, h.own.vw, h.own.bs⟩ : MxOwn W (g + 1) ⟨z.kind, z.who, z.view, n, z.num, z.hops, z.b, z.a, z.has, z.y, z.x, z.A, z.n, z.c, z.l⟩)
  have o1 := MxOwn.setFar o0 (a := ⟨g, 4, none⟩) (.int .u64 n) (Nat.lt_succ_self g)
  have d0 := h.rd
  have d1 := RdAt.other d0 (p := ⟨g, 4, none⟩) hbg (.int .u64 n)
  have t0 := h.turn
  have t1 := Turn.setNew t0 (p := ⟨g, 4, none⟩) hwg (.int .u64 n)
  exact ⟨v1, q1, o1, ⟨h.num.k0, h.num.k1, h.num.hv, hn, h.num.hn, h.num.h0, h.num.h1, h.num.cm, h.num.vw⟩, ⟨h.sm.n, h.sm.c, h.sm.v⟩, d1, t1, hl⟩
theorem GetG.setNum (h : GetG w W b s g z) (hb : b < w.heap.size) (n : Nat) (hn : n < 18446744073709551616) : GetG w (W.setCell ⟨g, 5, none⟩ (.int .u64 n)) b s g ⟨z.kind, z.who, z.view, z.slot, n, z.hops, z.b, z.a, z.has, z.y, z.x, z.A, z.n, z.c, z.l⟩ := by
  have hl := h.lo
  have v1 := heap_setCell_same _ g 5 _ _ (.int .u64 n) h.v
  have hne : w.heap.size ≠ g := by omega
  have hbg : b < g := by omega
  have hwg : w.heap.size ≤ g := by omega
  have q0 := h.r
  have q1 := MAt10.far q0 (a := ⟨g, 5, none⟩) (.int .u64 n) hne
  have o0 := (⟨h.own.cm, h.own.vw, h.own.bs⟩ : MxOwn W (g + 1) ⟨z.kind, z.who, z.view, z.slot, n, z.hops, z.b, z.a, z.has, z.y, z.x, z.A, z.n, z.c, z.l⟩)
  have o1 := MxOwn.setFar o0 (a := ⟨g, 5, none⟩) (.int .u64 n) (Nat.lt_succ_self g)
  have d0 := h.rd
  have d1 := RdAt.other d0 (p := ⟨g, 5, none⟩) hbg (.int .u64 n)
  have t0 := h.turn
  have t1 := Turn.setNew t0 (p := ⟨g, 5, none⟩) hwg (.int .u64 n)
  exact ⟨v1, q1, o1, ⟨h.num.k0, h.num.k1, h.num.hv, h.num.hs, hn, h.num.h0, h.num.h1, h.num.cm, h.num.vw⟩, ⟨h.sm.n, h.sm.c, h.sm.v⟩, d1, t1, hl⟩
theorem GetG.setHops (h : GetG w W b s g z) (hb : b < w.heap.size) (n : Nat) (hn : n ≤ 4) : GetG w (W.setCell ⟨g, 6, none⟩ (.int .i64 n)) b s g ⟨z.kind, z.who, z.view, z.slot, z.num, (n : Int), z.b, z.a, z.has, z.y, z.x, z.A, z.n, z.c, z.l⟩ := by
  have hl := h.lo
  have v1 := heap_setCell_same _ g 6 _ _ (.int .i64 n) h.v
  have hne : w.heap.size ≠ g := by omega
  have hbg : b < g := by omega
  have hwg : w.heap.size ≤ g := by omega
  have q0 := h.r
  have q1 := MAt10.far q0 (a := ⟨g, 6, none⟩) (.int .i64 n) hne
  have o0 := (⟨h.own.cm, h.own.vw, h.own.bs⟩ : MxOwn W (g + 1) ⟨z.kind, z.who, z.view, z.slot, z.num, (n : Int), z.b, z.a, z.has, z.y, z.x, z.A, z.n, z.c, z.l⟩)
  have o1 := MxOwn.setFar o0 (a := ⟨g, 6, none⟩) (.int .i64 n) (Nat.lt_succ_self g)
  have d0 := h.rd
  have d1 := RdAt.other d0 (p := ⟨g, 6, none⟩) hbg (.int .i64 n)
  have t0 := h.turn
  have t1 := Turn.setNew t0 (p := ⟨g, 6, none⟩) hwg (.int .i64 n)
  exact ⟨v1, q1, o1, ⟨h.num.k0, h.num.k1, h.num.hv, h.num.hs, h.num.hn, (by show (-9223372036854775808 : Int) ≤ (n : Int); omega), (by show (n : Int) ≤ 9223372036854775807; omega), h.num.cm, h.num.vw⟩, ⟨h.sm.n, h.sm.c, h.sm.v⟩, d1, t1, hl⟩
theorem GetG.setB (h : GetG w W b s g z) (hb : b < w.heap.size) (p : Bl) : GetG w (((W.setCell ⟨g, 7, none⟩ (.int .u32 p.r)).setCell ⟨g, 8, none⟩ (.int .u16 p.p.i)).setCell ⟨g, 9, none⟩ (.int .u32 p.p.k)) b s g ⟨z.kind, z.who, z.view, z.slot, z.num, z.hops, p, z.a, z.has, z.y, z.x, z.A, z.n, z.c, z.l⟩ := by
  have hl := h.lo
  have v1 := heap_setCell_same _ g 7 _ _ (.int .u32 p.r) h.v
  have v2 := heap_setCell_same _ g 8 _ _ (.int .u16 p.p.i) v1
  have v3 := heap_setCell_same _ g 9 _ _ (.int .u32 p.p.k) v2
  have hne : w.heap.size ≠ g := by omega
  have hbg : b < g := by omega
  have hwg : w.heap.size ≤ g := by omega
  have q0 := h.r
  have q1 := MAt10.far q0 (a := ⟨g, 7, none⟩) (.int .u32 p.r) hne
  have q2 := MAt10.far q1 (a := ⟨g, 8, none⟩) (.int .u16 p.p.i) hne
  have q3 := MAt10.far q2 (a := ⟨g, 9, none⟩) (.int .u32 p.p.k) hne
  have o0 := (⟨h.own.cm, h.own.vw, h.own.bs⟩ : MxOwn W (g + 1) ⟨z.kind, z.who, z.view, z.slot, z.num, z.hops, p, z.a, z.has, z.y, z.x, z.A, z.n, z.c, z.l⟩)
  have o1 := MxOwn.setFar o0 (a := ⟨g, 7, none⟩) (.int .u32 p.r) (Nat.lt_succ_self g)
  have o2 := MxOwn.setFar o1 (a := ⟨g, 8, none⟩) (.int .u16 p.p.i) (Nat.lt_succ_self g)
  have o3 := MxOwn.setFar o2 (a := ⟨g, 9, none⟩) (.int .u32 p.p.k) (Nat.lt_succ_self g)
  have d0 := h.rd
  have d1 := RdAt.other d0 (p := ⟨g, 7, none⟩) hbg (.int .u32 p.r)
  have d2 := RdAt.other d1 (p := ⟨g, 8, none⟩) hbg (.int .u16 p.p.i)
  have d3 := RdAt.other d2 (p := ⟨g, 9, none⟩) hbg (.int .u32 p.p.k)
  have t0 := h.turn
  have t1 := Turn.setNew t0 (p := ⟨g, 7, none⟩) hwg (.int .u32 p.r)
  have t2 := Turn.setNew t1 (p := ⟨g, 8, none⟩) hwg (.int .u16 p.p.i)
  have t3 := Turn.setNew t2 (p := ⟨g, 9, none⟩) hwg (.int .u32 p.p.k)
  exact ⟨v3, q3, o3, ⟨h.num.k0, h.num.k1, h.num.hv, h.num.hs, h.num.hn, h.num.h0, h.num.h1, h.num.cm, h.num.vw⟩, ⟨h.sm.n, h.sm.c, h.sm.v⟩, d3, t3, hl⟩
theorem GetG.setA (h : GetG w W b s g z) (hb : b < w.heap.size) (p : Bl) : GetG w (((W.setCell ⟨g, 10, none⟩ (.int .u32 p.r)).setCell ⟨g, 11, none⟩ (.int .u16 p.p.i)).setCell ⟨g, 12, none⟩ (.int .u32 p.p.k)) b s g ⟨z.kind, z.who, z.view, z.slot, z.num, z.hops, z.b, p, z.has, z.y, z.x, z.A, z.n, z.c, z.l⟩ := by
  have hl := h.lo
  have v1 := heap_setCell_same _ g 10 _ _ (.int .u32 p.r) h.v
  have v2 := heap_setCell_same _ g 11 _ _ (.int .u16 p.p.i) v1
  have v3 := heap_setCell_same _ g 12 _ _ (.int .u32 p.p.k) v2
  have hne : w.heap.size ≠ g := by omega
  have hbg : b < g := by omega
  have hwg : w.heap.size ≤ g := by omega
  have q0 := h.r
  have q1 := MAt10.far q0 (a := ⟨g, 10, none⟩) (.int .u32 p.r) hne
  have q2 := MAt10.far q1 (a := ⟨g, 11, none⟩) (.int .u16 p.p.i) hne
  have q3 := MAt10.far q2 (a := ⟨g, 12, none⟩) (.int .u32 p.p.k) hne
  have o0 := (⟨h.own.cm, h.own.vw, h.own.bs⟩ : MxOwn W (g + 1) ⟨z.kind, z.who, z.view, z.slot, z.num, z.hops, z.b, p, z.has, z.y, z.x, z.A, z.n, z.c, z.l⟩)
  have o1 := MxOwn.setFar o0 (a := ⟨g, 10, none⟩) (.int .u32 p.r) (Nat.lt_succ_self g)
  have o2 := MxOwn.setFar o1 (a := ⟨g, 11, none⟩) (.int .u16 p.p.i) (Nat.lt_succ_self g)
  have o3 := MxOwn.setFar o2 (a := ⟨g, 12, none⟩) (.int .u32 p.p.k) (Nat.lt_succ_self g)
  have d0 := h.rd
  have d1 := RdAt.other d0 (p := ⟨g, 10, none⟩) hbg (.int .u32 p.r)
  have d2 := RdAt.other d1 (p := ⟨g, 11, none⟩) hbg (.int .u16 p.p.i)
  have d3 := RdAt.other d2 (p := ⟨g, 12, none⟩) hbg (.int .u32 p.p.k)
  have t0 := h.turn
  have t1 := Turn.setNew t0 (p := ⟨g, 10, none⟩) hwg (.int .u32 p.r)
  have t2 := Turn.setNew t1 (p := ⟨g, 11, none⟩) hwg (.int .u16 p.p.i)
  have t3 := Turn.setNew t2 (p := ⟨g, 12, none⟩) hwg (.int .u32 p.p.k)
  exact ⟨v3, q3, o3, ⟨h.num.k0, h.num.k1, h.num.hv, h.num.hs, h.num.hn, h.num.h0, h.num.h1, h.num.cm, h.num.vw⟩, ⟨h.sm.n, h.sm.c, h.sm.v⟩, d3, t3, hl⟩
theorem GetG.setHas (h : GetG w W b s g z) (hb : b < w.heap.size) (t : Bool) : GetG w (W.setCell ⟨g, 13, none⟩ (.bool t)) b s g ⟨z.kind, z.who, z.view, z.slot, z.num, z.hops, z.b, z.a, t, z.y, z.x, z.A, z.n, z.c, z.l⟩ := by
  have hl := h.lo
  have v1 := heap_setCell_same _ g 13 _ _ (.bool t) h.v
  have hne : w.heap.size ≠ g := by omega
  have hbg : b < g := by omega
  have hwg : w.heap.size ≤ g := by omega
  have q0 := h.r
  have q1 := MAt10.far q0 (a := ⟨g, 13, none⟩) (.bool t) hne
  have o0 := (⟨h.own.cm, h.own.vw, h.own.bs⟩ : MxOwn W (g + 1) ⟨z.kind, z.who, z.view, z.slot, z.num, z.hops, z.b, z.a, t, z.y, z.x, z.A, z.n, z.c, z.l⟩)
  have o1 := MxOwn.setFar o0 (a := ⟨g, 13, none⟩) (.bool t) (Nat.lt_succ_self g)
  have d0 := h.rd
  have d1 := RdAt.other d0 (p := ⟨g, 13, none⟩) hbg (.bool t)
  have t0 := h.turn
  have t1 := Turn.setNew t0 (p := ⟨g, 13, none⟩) hwg (.bool t)
  exact ⟨v1, q1, o1, ⟨h.num.k0, h.num.k1, h.num.hv, h.num.hs, h.num.hn, h.num.h0, h.num.h1, h.num.cm, h.num.vw⟩, ⟨h.sm.n, h.sm.c, h.sm.v⟩, d1, t1, hl⟩
set_option maxHeartbeats 4000000 in
theorem GetG.setC (h : GetG w W b s g z) (hb : b < w.heap.size) (y : Cx) (ho : CxOwn W (g + 1) y) (hs : CSmall y) (hk : CNums y) : GetG w ((((((((((W.setCell ⟨g, 14, none⟩ (.int .i64 y.kind)).setCell ⟨g, 15, none⟩ (.int .u16 y.p.i)).setCell ⟨g, 16, none⟩ (.int .u32 y.p.k)).setCell ⟨g, 17, none⟩ (.int .u64 y.num)).setCell ⟨g, 18, none⟩ (.int .u64 y.vn)).setCell ⟨g, 19, none⟩ (.slice y.A y.n y.c)).setCell ⟨g, 20, none⟩ (.int .u64 y.x.id)).setCell ⟨g, 21, none⟩ (.slice y.x.A y.x.m y.x.c)).setCell ⟨g, 22, none⟩ (.slice y.x.B y.x.d y.x.e)).setCell ⟨g, 23, none⟩ (.slice y.x.C y.x.f y.x.g)) b s g ⟨z.kind, z.who, z.view, z.slot, z.num, z.hops, z.b, z.a, z.has, y, z.x, z.A, z.n, z.c, z.l⟩ := by
  have hl := h.lo
  have v1 : MAt10 (W.setCell ⟨g, 14, none⟩ (.int .i64 y.kind)) g ⟨z.kind, z.who, z.view, z.slot, z.num, z.hops, z.b, z.a, z.has, ⟨y.kind, ⟨z.y.p.i, z.y.p.k, z.y.p.hi, z.y.p.hk⟩, z.y.num, z.y.vn, z.y.A, z.y.n, z.y.c, z.y.l, ⟨z.y.x.id, z.y.x.A, z.y.x.m, z.y.x.c, z.y.x.l, z.y.x.B, z.y.x.d, z.y.x.e, z.y.x.q, z.y.x.C, z.y.x.f, z.y.x.g, z.y.x.r⟩⟩, z.x, z.A, z.n, z.c, z.l⟩ := heap_setCell_same _ g 14 _ _ (.int .i64 y.kind) h.v
  have v2 : MAt10 ((W.setCell ⟨g, 14, none⟩ (.int .i64 y.kind)).setCell ⟨g, 15, none⟩ (.int .u16 y.p.i)) g ⟨z.kind, z.who, z.view, z.slot, z.num, z.hops, z.b, z.a, z.has, ⟨y.kind, ⟨y.p.i, z.y.p.k, y.p.hi, z.y.p.hk⟩, z.y.num, z.y.vn, z.y.A, z.y.n, z.y.c, z.y.l, ⟨z.y.x.id, z.y.x.A, z.y.x.m, z.y.x.c, z.y.x.l, z.y.x.B, z.y.x.d, z.y.x.e, z.y.x.q, z.y.x.C, z.y.x.f, z.y.x.g, z.y.x.r⟩⟩, z.x, z.A, z.n, z.c, z.l⟩ := heap_setCell_same _ g 15 _ _ (.int .u16 y.p.i) v1
  have v3 : MAt10 (((W.setCell ⟨g, 14, none⟩ (.int .i64 y.kind)).setCell ⟨g, 15, none⟩ (.int .u16 y.p.i)).setCell ⟨g, 16, none⟩ (.int .u32 y.p.k)) g ⟨z.kind, z.who, z.view, z.slot, z.num, z.hops, z.b, z.a, z.has, ⟨y.kind, ⟨y.p.i, y.p.k, y.p.hi, y.p.hk⟩, z.y.num, z.y.vn, z.y.A, z.y.n, z.y.c, z.y.l, ⟨z.y.x.id, z.y.x.A, z.y.x.m, z.y.x.c, z.y.x.l, z.y.x.B, z.y.x.d, z.y.x.e, z.y.x.q, z.y.x.C, z.y.x.f, z.y.x.g, z.y.x.r⟩⟩, z.x, z.A, z.n, z.c, z.l⟩ := heap_setCell_same _ g 16 _ _ (.int .u32 y.p.k) v2
  have v4 : MAt10 ((((W.setCell ⟨g, 14, none⟩ (.int .i64 y.kind)).setCell ⟨g, 15, none⟩ (.int .u16 y.p.i)).setCell ⟨g, 16, none⟩ (.int .u32 y.p.k)).setCell ⟨g, 17, none⟩ (.int .u64 y.num)) g ⟨z.kind, z.who, z.view, z.slot, z.num, z.hops, z.b, z.a, z.has, ⟨y.kind, ⟨y.p.i, y.p.k, y.p.hi, y.p.hk⟩, y.num, z.y.vn, z.y.A, z.y.n, z.y.c, z.y.l, ⟨z.y.x.id, z.y.x.A, z.y.x.m, z.y.x.c, z.y.x.l, z.y.x.B, z.y.x.d, z.y.x.e, z.y.x.q, z.y.x.C, z.y.x.f, z.y.x.g, z.y.x.r⟩⟩, z.x, z.A, z.n, z.c, z.l⟩ := heap_setCell_same _ g 17 _ _ (.int .u64 y.num) v3
  have v5 : MAt10 (((((W.setCell ⟨g, 14, none⟩ (.int .i64 y.kind)).setCell ⟨g, 15, none⟩ (.int .u16 y.p.i)).setCell ⟨g, 16, none⟩ (.int .u32 y.p.k)).setCell ⟨g, 17, none⟩ (.int .u64 y.num)).setCell ⟨g, 18, none⟩ (.int .u64 y.vn)) g ⟨z.kind, z.who, z.view, z.slot, z.num, z.hops, z.b, z.a, z.has, ⟨y.kind, ⟨y.p.i, y.p.k, y.p.hi, y.p.hk⟩, y.num, y.vn, z.y.A, z.y.n, z.y.c, z.y.l, ⟨z.y.x.id, z.y.x.A, z.y.x.m, z.y.x.c, z.y.x.l, z.y.x.B, z.y.x.d, z.y.x.e, z.y.x.q, z.y.x.C, z.y.x.f, z.y.x.g, z.y.x.r⟩⟩, z.x, z.A, z.n, z.c, z.l⟩ := heap_setCell_same _ g 18 _ _ (.int .u64 y.vn) v4
  have v6 : MAt10 ((((((W.setCell ⟨g, 14, none⟩ (.int .i64 y.kind)).setCell ⟨g, 15, none⟩ (.int .u16 y.p.i)).setCell ⟨g, 16, none⟩ (.int .u32 y.p.k)).setCell ⟨g, 17, none⟩ (.int .u64 y.num)).setCell ⟨g, 18, none⟩ (.int .u64 y.vn)).setCell ⟨g, 19, none⟩ (.slice y.A y.n y.c)) g ⟨z.kind, z.who, z.view, z.slot, z.num, z.hops, z.b, z.a, z.has, ⟨y.kind, ⟨y.p.i, y.p.k, y.p.hi, y.p.hk⟩, y.num, y.vn, y.A, y.n, y.c, y.l, ⟨z.y.x.id, z.y.x.A, z.y.x.m, z.y.x.c, z.y.x.l, z.y.x.B, z.y.x.d, z.y.x.e, z.y.x.q, z.y.x.C, z.y.x.f, z.y.x.g, z.y.x.r⟩⟩, z.x, z.A, z.n, z.c, z.l⟩ := heap_setCell_same _ g 19 _ _ (.slice y.A y.n y.c) v5
  have v7 : MAt10 (((((((W.setCell ⟨g, 14, none⟩ (.int .i64 y.kind)).setCell ⟨g, 15, none⟩ (.int .u16 y.p.i)).setCell ⟨g, 16, none⟩ (.int .u32 y.p.k)).setCell ⟨g, 17, none⟩ (.int .u64 y.num)).setCell ⟨g, 18, none⟩ (.int .u64 y.vn)).setCell ⟨g, 19, none⟩ (.slice y.A y.n y.c)).setCell ⟨g, 20, none⟩ (.int .u64 y.x.id)) g ⟨z.kind, z.who, z.view, z.slot, z.num, z.hops, z.b, z.a, z.has, ⟨y.kind, ⟨y.p.i, y.p.k, y.p.hi, y.p.hk⟩, y.num, y.vn, y.A, y.n, y.c, y.l, ⟨y.x.id, z.y.x.A, z.y.x.m, z.y.x.c, z.y.x.l, z.y.x.B, z.y.x.d, z.y.x.e, z.y.x.q, z.y.x.C, z.y.x.f, z.y.x.g, z.y.x.r⟩⟩, z.x, z.A, z.n, z.c, z.l⟩ := heap_setCell_same _ g 20 _ _ (.int .u64 y.x.id) v6
  have v8 : MAt10 ((((((((W.setCell ⟨g, 14, none⟩ (.int .i64 y.kind)).setCell ⟨g, 15, none⟩ (.int .u16 y.p.i)).setCell ⟨g, 16, none⟩ (.int .u32 y.p.k)).setCell ⟨g, 17, none⟩ (.int .u64 y.num)).setCell ⟨g, 18, none⟩ (.int .u64 y.vn)).setCell ⟨g, 19, none⟩ (.slice y.A y.n y.c)).setCell ⟨g, 20, none⟩ (.int .u64 y.x.id)).setCell ⟨g, 21, none⟩ (.slice y.x.A y.x.m y.x.c)) g ⟨z.kind, z.who, z.view, z.slot, z.num, z.hops, z.b, z.a, z.has, ⟨y.kind, ⟨y.p.i, y.p.k, y.p.hi, y.p.hk⟩, y.num, y.vn, y.A, y.n, y.c, y.l, ⟨y.x.id, y.x.A, y.x.m, y.x.c, y.x.l, z.y.x.B, z.y.x.d, z.y.x.e, z.y.x.q, z.y.x.C, z.y.x.f, z.y.x.g, z.y.x.r⟩⟩, z.x, z.A, z.n, z.c, z.l⟩ := heap_setCell_same _ g 21 _ _ (.slice y.x.A y.x.m y.x.c) v7
  have v9 : MAt10 (((((((((W.setCell ⟨g, 14, none⟩ (.int .i64 y.kind)).setCell ⟨g, 15, none⟩ (.int .u16 y.p.i)).setCell ⟨g, 16, none⟩ (.int .u32 y.p.k)).setCell ⟨g, 17, none⟩ (.int .u64 y.num)).setCell ⟨g, 18, none⟩ (.int .u64 y.vn)).setCell ⟨g, 19, none⟩ (.slice y.A y.n y.c)).setCell ⟨g, 20, none⟩ (.int .u64 y.x.id)).setCell ⟨g, 21, none⟩ (.slice y.x.A y.x.m y.x.c)).setCell ⟨g, 22, none⟩ (.slice y.x.B y.x.d y.x.e)) g ⟨z.kind, z.who, z.view, z.slot, z.num, z.hops, z.b, z.a, z.has, ⟨y.kind, ⟨y.p.i, y.p.k, y.p.hi, y.p.hk⟩, y.num, y.vn, y.A, y.n, y.c, y.l, ⟨y.x.id, y.x.A, y.x.m, y.x.c, y.x.l, y.x.B, y.x.d, y.x.e, y.x.q, z.y.x.C, z.y.x.f, z.y.x.g, z.y.x.r⟩⟩, z.x, z.A, z.n, z.c, z.l⟩ := heap_setCell_same _ g 22 _ _ (.slice y.x.B y.x.d y.x.e) v8
  have v10 : MAt10 ((((((((((W.setCell ⟨g, 14, none⟩ (.int .i64 y.kind)).setCell ⟨g, 15, none⟩ (.int .u16 y.p.i)).setCell ⟨g, 16, none⟩ (.int .u32 y.p.k)).setCell ⟨g, 17, none⟩ (.int .u64 y.num)).setCell ⟨g, 18, none⟩ (.int .u64 y.vn)).setCell ⟨g, 19, none⟩ (.slice y.A y.n y.c)).setCell ⟨g, 20, none⟩ (.int .u64 y.x.id)).setCell ⟨g, 21, none⟩ (.slice y.x.A y.x.m y.x.c)).setCell ⟨g, 22, none⟩ (.slice y.x.B y.x.d y.x.e)).setCell ⟨g, 23, none⟩ (.slice y.x.C y.x.f y.x.g)) g ⟨z.kind, z.who, z.view, z.slot, z.num, z.hops, z.b, z.a, z.has, ⟨y.kind, ⟨y.p.i, y.p.k, y.p.hi, y.p.hk⟩, y.num, y.vn, y.A, y.n, y.c, y.l, ⟨y.x.id, y.x.A, y.x.m, y.x.c, y.x.l, y.x.B, y.x.d, y.x.e, y.x.q, y.x.C, y.x.f, y.x.g, y.x.r⟩⟩, z.x, z.A, z.n, z.c, z.l⟩ := heap_setCell_same _ g 23 _ _ (.slice y.x.C y.x.f y.x.g) v9
  have hne : w.heap.size ≠ g := by omega
  have hbg : b < g := by omega
  have hwg : w.heap.size ≤ g := by omega
  have q0 := h.r
  have q1 := MAt10.far q0 (a := ⟨g, 14, none⟩) (.int .i64 y.kind) hne
  have q2 := MAt10.far q1 (a := ⟨g, 15, none⟩) (.int .u16 y.p.i) hne
  have q3 := MAt10.far q2 (a := ⟨g, 16, none⟩) (.int .u32 y.p.k) hne
  have q4 := MAt10.far q3 (a := ⟨g, 17, none⟩) (.int .u64 y.num) hne
  have q5 := MAt10.far q4 (a := ⟨g, 18, none⟩) (.int .u64 y.vn) hne
  have q6 := MAt10.far q5 (a := ⟨g, 19, none⟩) (.slice y.A y.n y.c) hne
  have q7 := MAt10.far q6 (a := ⟨g, 20, none⟩) (.int .u64 y.x.id) hne
  have q8 := MAt10.far q7 (a := ⟨g, 21, none⟩) (.slice y.x.A y.x.m y.x.c) hne
  have q9 := MAt10.far q8 (a := ⟨g, 22, none⟩) (.slice y.x.B y.x.d y.x.e) hne
  have q10 := MAt10.far q9 (a := ⟨g, 23, none⟩) (.slice y.x.C y.x.f y.x.g) hne
  have o0 := (⟨ho, h.own.vw, h.own.bs⟩ : MxOwn W (g + 1) ⟨z.kind, z.who, z.view, z.slot, z.num, z.hops, z.b, z.a, z.has, y, z.x, z.A, z.n, z.c, z.l⟩)
  have o1 := MxOwn.setFar o0 (a := ⟨g, 14, none⟩) (.int .i64 y.kind) (Nat.lt_succ_self g)
  have o2 := MxOwn.setFar o1 (a := ⟨g, 15, none⟩) (.int .u16 y.p.i) (Nat.lt_succ_self g)
  have o3 := MxOwn.setFar o2 (a := ⟨g, 16, none⟩) (.int .u32 y.p.k) (Nat.lt_succ_self g)
  have o4 := MxOwn.setFar o3 (a := ⟨g, 17, none⟩) (.int .u64 y.num) (Nat.lt_succ_self g)
  have o5 := MxOwn.setFar o4 (a := ⟨g, 18, none⟩) (.int .u64 y.vn) (Nat.lt_succ_self g)
  have o6 := MxOwn.setFar o5 (a := ⟨g, 19, none⟩) (.slice y.A y.n y.c) (Nat.lt_succ_self g)
  have o7 := MxOwn.setFar o6 (a := ⟨g, 20, none⟩) (.int .u64 y.x.id) (Nat.lt_succ_self g)
  have o8 := MxOwn.setFar o7 (a := ⟨g, 21, none⟩) (.slice y.x.A y.x.m y.x.c) (Nat.lt_succ_self g)
  have o9 := MxOwn.setFar o8 (a := ⟨g, 22, none⟩) (.slice y.x.B y.x.d y.x.e) (Nat.lt_succ_self g)
  have o10 := MxOwn.setFar o9 (a := ⟨g, 23, none⟩) (.slice y.x.C y.x.f y.x.g) (Nat.lt_succ_self g)
  have d0 := h.rd
  have d1 := RdAt.other d0 (p := ⟨g, 14, none⟩) hbg (.int .i64 y.kind)
  have d2 := RdAt.other d1 (p := ⟨g, 15, none⟩) hbg (.int .u16 y.p.i)
  have d3 := RdAt.other d2 (p := ⟨g, 16, none⟩) hbg (.int .u32 y.p.k)
  have d4 := RdAt.other d3 (p := ⟨g, 17, none⟩) hbg (.int .u64 y.num)
  have d5 := RdAt.other d4 (p := ⟨g, 18, none⟩) hbg (.int .u64 y.vn)
  have d6 := RdAt.other d5 (p := ⟨g, 19, none⟩) hbg (.slice y.A y.n y.c)
  have d7 := RdAt.other d6 (p := ⟨g, 20, none⟩) hbg (.int .u64 y.x.id)
  have d8 := RdAt.other d7 (p := ⟨g, 21, none⟩) hbg (.slice y.x.A y.x.m y.x.c)
  have d9 := RdAt.other d8 (p := ⟨g, 22, none⟩) hbg (.slice y.x.B y.x.d y.x.e)
  have d10 := RdAt.other d9 (p := ⟨g, 23, none⟩) hbg (.slice y.x.C y.x.f y.x.g)
  have t0 := h.turn
  have t1 := Turn.setNew t0 (p := ⟨g, 14, none⟩) hwg (.int .i64 y.kind)
  have t2 := Turn.setNew t1 (p := ⟨g, 15, none⟩) hwg (.int .u16 y.p.i)
  have t3 := Turn.setNew t2 (p := ⟨g, 16, none⟩) hwg (.int .u32 y.p.k)
  have t4 := Turn.setNew t3 (p := ⟨g, 17, none⟩) hwg (.int .u64 y.num)
  have t5 := Turn.setNew t4 (p := ⟨g, 18, none⟩) hwg (.int .u64 y.vn)
  have t6 := Turn.setNew t5 (p := ⟨g, 19, none⟩) hwg (.slice y.A y.n y.c)
  have t7 := Turn.setNew t6 (p := ⟨g, 20, none⟩) hwg (.int .u64 y.x.id)
  have t8 := Turn.setNew t7 (p := ⟨g, 21, none⟩) hwg (.slice y.x.A y.x.m y.x.c)
  have t9 := Turn.setNew t8 (p := ⟨g, 22, none⟩) hwg (.slice y.x.B y.x.d y.x.e)
  have t10 := Turn.setNew t9 (p := ⟨g, 23, none⟩) hwg (.slice y.x.C y.x.f y.x.g)
  exact ⟨v10, q10, o10, ⟨h.num.k0, h.num.k1, h.num.hv, h.num.hs, h.num.hn, h.num.h0, h.num.h1, hk, h.num.vw⟩, ⟨h.sm.n, hs, h.sm.v⟩, d10, t10, hl⟩
set_option maxHeartbeats 4000000 in
theorem GetG.setV (h : GetG w W b s g z) (hb : b < w.heap.size) (x : Vw) (ho : VwOwn W (g + 1) x) (hs : VSmall x) (hk : x.id < 18446744073709551616) : GetG w ((((W.setCell ⟨g, 24, none⟩ (.int .u64 x.id)).setCell ⟨g, 25, none⟩ (.slice x.A x.m x.c)).setCell ⟨g, 26, none⟩ (.slice x.B x.d x.e)).setCell ⟨g, 27, none⟩ (.slice x.C x.f x.g)) b s g ⟨z.kind, z.who, z.view, z.slot, z.num, z.hops, z.b, z.a, z.has, z.y, x, z.A, z.n, z.c, z.l⟩ := by
  have hl := h.lo
  have v1 : MAt10 (W.setCell ⟨g, 24, none⟩ (.int .u64 x.id)) g ⟨z.kind, z.who, z.view, z.slot, z.num, z.hops, z.b, z.a, z.has, z.y, ⟨x.id, z.x.A, z.x.m, z.x.c, z.x.l, z.x.B, z.x.d, z.x.e, z.x.q, z.x.C, z.x.f, z.x.g, z.x.r⟩, z.A, z.n, z.c, z.l⟩ := heap_setCell_same _ g 24 _ _ (.int .u64 x.id) h.v
  have v2 : MAt10 ((W.setCell ⟨g, 24, none⟩ (.int .u64 x.id)).setCell ⟨g, 25, none⟩ (.slice x.A x.m x.c)) g ⟨z.kind, z.who, z.view, z.slot, z.num, z.hops, z.b, z.a, z.has, z.y, ⟨x.id, x.A, x.m, x.c, x.l, z.x.B, z.x.d, z.x.e, z.x.q, z.x.C, z.x.f, z.x.g, z.x.r⟩, z.A, z.n, z.c, z.l⟩ := heap_setCell_same _ g 25 _ _ (.slice x.A x.m x.c) v1
  have v3 : MAt10 (((W.setCell ⟨g, 24, none⟩ (.int .u64 x.id)).setCell ⟨g, 25, none⟩ (.slice x.A x.m x.c)).setCell ⟨g, 26, none⟩ (.slice x.B x.d x.e)) g ⟨z.kind, z.who, z.view, z.slot, z.num, z.hops, z.b, z.a, z.has, z.y, ⟨x.id, x.A, x.m, x.c, x.l, x.B, x.d, x.e, x.q, z.x.C, z.x.f, z.x.g, z.x.r⟩, z.A, z.n, z.c, z.l⟩ := heap_setCell_same _ g 26 _ _ (.slice x.B x.d x.e) v2
  have v4 : MAt10 ((((W.setCell ⟨g, 24, none⟩ (.int .u64 x.id)).setCell ⟨g, 25, none⟩ (.slice x.A x.m x.c)).setCell ⟨g, 26, none⟩ (.slice x.B x.d x.e)).setCell ⟨g, 27, none⟩ (.slice x.C x.f x.g)) g ⟨z.kind, z.who, z.view, z.slot, z.num, z.hops, z.b, z.a, z.has, z.y, ⟨x.id, x.A, x.m, x.c, x.l, x.B, x.d, x.e, x.q, x.C, x.f, x.g, x.r⟩, z.A, z.n, z.c, z.l⟩ := heap_setCell_same _ g 27 _ _ (.slice x.C x.f x.g) v3
  have hne : w.heap.size ≠ g := by omega
  have hbg : b < g := by omega
  have hwg : w.heap.size ≤ g := by omega
  have q0 := h.r
  have q1 := MAt10.far q0 (a := ⟨g, 24, none⟩) (.int .u64 x.id) hne
  have q2 := MAt10.far q1 (a := ⟨g, 25, none⟩) (.slice x.A x.m x.c) hne
  have q3 := MAt10.far q2 (a := ⟨g, 26, none⟩) (.slice x.B x.d x.e) hne
  have q4 := MAt10.far q3 (a := ⟨g, 27, none⟩) (.slice x.C x.f x.g) hne
  have o0 := (⟨h.own.cm, ho, h.own.bs⟩ : MxOwn W (g + 1) ⟨z.kind, z.who, z.view, z.slot, z.num, z.hops, z.b, z.a, z.has, z.y, x, z.A, z.n, z.c, z.l⟩)
  have o1 := MxOwn.setFar o0 (a := ⟨g, 24, none⟩) (.int .u64 x.id) (Nat.lt_succ_self g)
  have o2 := MxOwn.setFar o1 (a := ⟨g, 25, none⟩) (.slice x.A x.m x.c) (Nat.lt_succ_self g)
  have o3 := MxOwn.setFar o2 (a := ⟨g, 26, none⟩) (.slice x.B x.d x.e) (Nat.lt_succ_self g)
  have o4 := MxOwn.setFar o3 (a := ⟨g, 27, none⟩) (.slice x.C x.f x.g) (Nat.lt_succ_self g)
  have d0 := h.rd
  have d1 := RdAt.other d0 (p := ⟨g, 24, none⟩) hbg (.int .u64 x.id)
  have d2 := RdAt.other d1 (p := ⟨g, 25, none⟩) hbg (.slice x.A x.m x.c)
  have d3 := RdAt.other d2 (p := ⟨g, 26, none⟩) hbg (.slice x.B x.d x.e)
  have d4 := RdAt.other d3 (p := ⟨g, 27, none⟩) hbg (.slice x.C x.f x.g)
  have t0 := h.turn
  have t1 := Turn.setNew t0 (p := ⟨g, 24, none⟩) hwg (.int .u64 x.id)
  have t2 := Turn.setNew t1 (p := ⟨g, 25, none⟩) hwg (.slice x.A x.m x.c)
  have t3 := Turn.setNew t2 (p := ⟨g, 26, none⟩) hwg (.slice x.B x.d x.e)
  have t4 := Turn.setNew t3 (p := ⟨g, 27, none⟩) hwg (.slice x.C x.f x.g)
  exact ⟨v4, q4, o4, ⟨h.num.k0, h.num.k1, h.num.hv, h.num.hs, h.num.hn, h.num.h0, h.num.h1, h.num.cm, hk⟩, ⟨h.sm.n, h.sm.c, hs⟩, d4, t4, hl⟩
theorem GetG.setD (h : GetG w W b s g z) (hb : b < w.heap.size) (A : Option Addr) (n c : Nat) (l : List UInt8) (ho : OwnB W (g + 1) (.slice A n c) n l) (hs : n ≤ 400) : GetG w (W.setCell ⟨g, 28, none⟩ (.slice A n c)) b s g ⟨z.kind, z.who, z.view, z.slot, z.num, z.hops, z.b, z.a, z.has, z.y, z.x, A, n, c, l⟩ := by
  have hl := h.lo
  have v1 := heap_setCell_same _ g 28 _ _ (.slice A n c) h.v
  have hne : w.heap.size ≠ g := by omega
  have hbg : b < g := by omega
  have hwg : w.heap.size ≤ g := by omega
  have q0 := h.r
  have q1 := MAt10.far q0 (a := ⟨g, 28, none⟩) (.slice A n c) hne
  have o0 := (⟨h.own.cm, h.own.vw, ho⟩ : MxOwn W (g + 1) ⟨z.kind, z.who, z.view, z.slot, z.num, z.hops, z.b, z.a, z.has, z.y, z.x, A, n, c, l⟩)
  have o1 := MxOwn.setFar o0 (a := ⟨g, 28, none⟩) (.slice A n c) (Nat.lt_succ_self g)
  have d0 := h.rd
  have d1 := RdAt.other d0 (p := ⟨g, 28, none⟩) hbg (.slice A n c)
  have t0 := h.turn
  have t1 := Turn.setNew t0 (p := ⟨g, 28, none⟩) hwg (.slice A n c)
  exact ⟨v1, q1, o1, ⟨h.num.k0, h.num.k1, h.num.hv, h.num.hs, h.num.hn, h.num.h0, h.num.h1, h.num.cm, h.num.vw⟩, ⟨hs, h.sm.c, h.sm.v⟩, d1, t1, hl⟩
end
end Go.Proofs.YtjmkecaljkcoiaaGreatDoor
