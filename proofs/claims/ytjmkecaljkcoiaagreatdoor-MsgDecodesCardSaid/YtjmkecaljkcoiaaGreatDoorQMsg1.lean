import Derived.Test.YtjmkecaljkcoiaaGreatDoorQCmd6
import Derived.Test.YtjmkecaljkcoiaaGreatDoorQOpenC
import Derived.Lib.LaidTab
namespace Go.Proofs.YtjmkecaljkcoiaaGreatDoor
open Go.RowKit Go.ChangeShapes Go.WideShapes Go.ChangeAt
set_option linter.unusedVariables false
set_option linter.unusedSimpArgs false
structure Mx where
  kind : Int
  who : Pr
  view : Nat
  slot : Nat
  num : Nat
  hops : Int
  b : Bl
  a : Bl
  has : Bool
  y : Cx
  x : Vw
  A : Option Addr
  n : Nat
  c : Nat
  l : List UInt8
def Mx.m (z : Mx) : Ms := ⟨z.kind, z.who, z.view, z.slot, z.num, z.hops, z.b, z.a, z.has, z.y.m, z.x.v, z.l⟩
structure MxIn (w : World) (B0 : Nat) (z : Mx) : Prop where
  k0 : -9223372036854775808 ≤ z.kind
  k1 : z.kind ≤ 9223372036854775807
  hv : z.view < 18446744073709551616
  hs : z.slot < 18446744073709551616
  hn : z.num < 18446744073709551616
  h0 : -9223372036854775808 ≤ z.hops
  h1 : z.hops ≤ 9223372036854775807
  cm : CxIn w B0 z.y
  vw : VwIn w B0 z.x
  bs : Bs w B0 z.A z.n z.l
  nc : z.n ≤ z.c
  room : z.c ≤ maxLen
theorem MxIn.below {w w' : World} {B0 : Nat} {z : Mx} (h : MxIn w B0 z) (hb : Below B0 w w') : MxIn w' B0 z := ⟨h.k0, h.k1, h.hv, h.hs, h.hn, h.h0, h.h1, h.cm.below hb, h.vw.below hb, h.bs.below hb, h.nc, h.room⟩
theorem MxIn.more {w : World} {B0 B1 : Nat} {z : Mx} (h : MxIn w B0 z) (hb : B0 ≤ B1) : MxIn w B1 z := ⟨h.k0, h.k1, h.hv, h.hs, h.hn, h.h0, h.h1, h.cm.more hb, h.vw.more hb, h.bs.more hb, h.nc, h.room⟩
def MAt10 (w : World) (b : Nat) (z : Mx) : Prop := w.heap[b]? = some (.cells #[.int .i64 z.kind, .int .u16 z.who.i, .int .u32 z.who.k, .int .u64 z.view, .int .u64 z.slot, .int .u64 z.num, .int .i64 z.hops, .int .u32 z.b.r, .int .u16 z.b.p.i, .int .u32 z.b.p.k, .int .u32 z.a.r, .int .u16 z.a.p.i, .int .u32 z.a.p.k, .bool z.has, .int .i64 z.y.kind, .int .u16 z.y.p.i, .int .u32 z.y.p.k, .int .u64 z.y.num, .int .u64 z.y.vn, .slice z.y.A z.y.n z.y.c, .int .u64 z.y.x.id, .slice z.y.x.A z.y.x.m z.y.x.c, .slice z.y.x.B z.y.x.d z.y.x.e, .slice z.y.x.C z.y.x.f z.y.x.g, .int .u64 z.x.id, .slice z.x.A z.x.m z.x.c, .slice z.x.B z.x.d z.x.e, .slice z.x.C z.x.f z.x.g, .slice z.A z.n z.c] 50)
section
variable {w w' : World} {b : Nat} {z : Mx}
theorem MAt10.cells (h : MAt10 w b z) : w.cell? ⟨b, 0, none⟩ = some (.int .i64 z.kind) ∧ w.cell? ⟨b, 1, none⟩ = some (.int .u16 z.who.i) ∧ w.cell? ⟨b, 2, none⟩ = some (.int .u32 z.who.k) ∧ w.cell? ⟨b, 3, none⟩ = some (.int .u64 z.view) ∧
    w.cell? ⟨b, 4, none⟩ = some (.int .u64 z.slot) ∧ w.cell? ⟨b, 5, none⟩ = some (.int .u64 z.num) ∧ w.cell? ⟨b, 6, none⟩ = some (.int .i64 z.hops) ∧ w.cell? ⟨b, 7, none⟩ = some (.int .u32 z.b.r) ∧ w.cell? ⟨b, 8, none⟩ = some (.int .u16 z.b.p.i) ∧ w.cell? ⟨b, 9, none⟩ = some (.int .u32 z.b.p.k) ∧
    w.cell? ⟨b, 10, none⟩ = some (.int .u32 z.a.r) ∧ w.cell? ⟨b, 11, none⟩ = some (.int .u16 z.a.p.i) ∧ w.cell? ⟨b, 12, none⟩ = some (.int .u32 z.a.p.k) ∧ w.cell? ⟨b, 13, none⟩ = some (.bool z.has) ∧
    w.cell? ⟨b, 14, none⟩ = some (.int .i64 z.y.kind) ∧ w.cell? ⟨b, 15, none⟩ = some (.int .u16 z.y.p.i) ∧ w.cell? ⟨b, 16, none⟩ = some (.int .u32 z.y.p.k) ∧ w.cell? ⟨b, 17, none⟩ = some (.int .u64 z.y.num) ∧ w.cell? ⟨b, 18, none⟩ = some (.int .u64 z.y.vn) ∧ w.cell? ⟨b, 19, none⟩ = some (.slice z.y.A z.y.n z.y.c) ∧
    w.cell? ⟨b, 20, none⟩ = some (.int .u64 z.y.x.id) ∧ w.cell? ⟨b, 21, none⟩ = some (.slice z.y.x.A z.y.x.m z.y.x.c) ∧ w.cell? ⟨b, 22, none⟩ = some (.slice z.y.x.B z.y.x.d z.y.x.e) ∧ w.cell? ⟨b, 23, none⟩ = some (.slice z.y.x.C z.y.x.f z.y.x.g) ∧
    w.cell? ⟨b, 24, none⟩ = some (.int .u64 z.x.id) ∧ w.cell? ⟨b, 25, none⟩ = some (.slice z.x.A z.x.m z.x.c) ∧ w.cell? ⟨b, 26, none⟩ = some (.slice z.x.B z.x.d z.x.e) ∧ w.cell? ⟨b, 27, none⟩ = some (.slice z.x.C z.x.f z.x.g) ∧ w.cell? ⟨b, 28, none⟩ = some (.slice z.A z.n z.c) := by
  have hf : ∀ j, w.cell? ⟨b, j, none⟩ = (#[.int .i64 z.kind, .int .u16 z.who.i, .int .u32 z.who.k, .int .u64 z.view, .int .u64 z.slot, .int .u64 z.num, .int .i64 z.hops, .int .u32 z.b.r, .int .u16 z.b.p.i, .int .u32 z.b.p.k, .int .u32 z.a.r, .int .u16 z.a.p.i, .int .u32 z.a.p.k, .bool z.has, .int .i64 z.y.kind, .int .u16 z.y.p.i, .int .u32 z.y.p.k, .int .u64 z.y.num, .int .u64 z.y.vn, .slice z.y.A z.y.n z.y.c, .int .u64 z.y.x.id, .slice z.y.x.A z.y.x.m z.y.x.c, .slice z.y.x.B z.y.x.d z.y.x.e, .slice z.y.x.C z.y.x.f z.y.x.g, .int .u64 z.x.id, .slice z.x.A z.x.m z.x.c, .slice z.x.B z.x.d z.x.e, .slice z.x.C z.x.f z.x.g, .slice z.A z.n z.c] : Array Value)[j]? := by
    intro j
    unfold MAt10 at h
    simp [World.cell?, h]
  exact ⟨hf 0, hf 1, hf 2, hf 3, hf 4, hf 5, hf 6, hf 7, hf 8, hf 9, hf 10, hf 11, hf 12, hf 13, hf 14, hf 15, hf 16, hf 17, hf 18, hf 19, hf 20, hf 21, hf 22, hf 23, hf 24, hf 25, hf 26, hf 27, hf 28⟩
theorem MAt10.lt (h : MAt10 w b z) : b < w.heap.size := lt_of_heap h
theorem MAt10.mk_ (w : World) (z : Mx) : MAt10 (w.alloc (.cells #[.int .i64 z.kind, .int .u16 z.who.i, .int .u32 z.who.k, .int .u64 z.view, .int .u64 z.slot, .int .u64 z.num, .int .i64 z.hops, .int .u32 z.b.r, .int .u16 z.b.p.i, .int .u32 z.b.p.k, .int .u32 z.a.r, .int .u16 z.a.p.i, .int .u32 z.a.p.k, .bool z.has, .int .i64 z.y.kind, .int .u16 z.y.p.i, .int .u32 z.y.p.k, .int .u64 z.y.num, .int .u64 z.y.vn, .slice z.y.A z.y.n z.y.c, .int .u64 z.y.x.id, .slice z.y.x.A z.y.x.m z.y.x.c, .slice z.y.x.B z.y.x.d z.y.x.e, .slice z.y.x.C z.y.x.f z.y.x.g, .int .u64 z.x.id, .slice z.x.A z.x.m z.x.c, .slice z.x.B z.x.d z.x.e, .slice z.x.C z.x.f z.x.g, .slice z.A z.n z.c] 50)) w.heap.size z := heap_alloc_new w _
theorem MAt10.alloc (h : MAt10 w b z) (o : Obj) : MAt10 (w.alloc o) b z := (Below.heap_alloc w o b h.lt).trans h
theorem MAt10.below {B : Nat} (h : MAt10 w b z) (hb : Below B w w') (hg : b < B) : MAt10 w' b z := (hb.block b hg).trans h
theorem MAt10.later (h : MAt10 w b z) (hb : Below w.heap.size w w') : MAt10 w' b z := h.below hb h.lt
theorem MAt10.fz (h : MAt10 w b z) (j : Nat) : w.frozen? ⟨b, j, none⟩ = false := frozen_of_row w b j _ _ h
theorem MAt10.turn {g : Nat} {mg : Option Nat} (h : MAt10 w b z) (ht : Turn w w' g mg) (h1 : b ≠ g) (h2 : some b ≠ mg) : MAt10 w' b z := (ht.block b h.lt h1 h2).trans h
theorem MAt10.far (h : MAt10 w b z) {a : Addr} (u : Value) (ha : b ≠ a.block) : MAt10 (w.setCell a u) b z := (heap_setCell_other w a b u ha).trans h
end
structure MSmall (z : Mx) : Prop where
  n : z.n ≤ 400
  c : CSmall z.y
  v : VSmall z.x
def zeroB : Bl := default
def zeroM : Mx := ⟨0, default, 0, 0, 0, 0, default, default, false, zX 0 zeroX, zeroX, none, 0, 0, []⟩
theorem size_msg : (Tryz.prog.info? 50).map (·.size) = some 29 := by kernel_rfl
theorem wpList_load_msg {ops : Array Oper} {rest : List Oper} {o : Oper} {a : Act} {w : World} {Q : Exit → Act → World → Prop} (z : Mx) (b : Nat) (hgd : o.guard = none) (x : Operand) (ho : o.op = .load 50 x)
    (hx : a.eval x = .pointer (some ⟨b, 0, none⟩)) (hg : MAt10 w b z) (h : wpList Tryz.prog ops Q rest (a.put o.dst (.agg #[.int .i64 z.kind, .int .u16 z.who.i, .int .u32 z.who.k, .int .u64 z.view, .int .u64 z.slot, .int .u64 z.num, .int .i64 z.hops, .int .u32 z.b.r, .int .u16 z.b.p.i, .int .u32 z.b.p.k, .int .u32 z.a.r, .int .u16 z.a.p.i, .int .u32 z.a.p.k, .bool z.has, .int .i64 z.y.kind, .int .u16 z.y.p.i, .int .u32 z.y.p.k, .int .u64 z.y.num, .int .u64 z.y.vn, .slice z.y.A z.y.n z.y.c, .int .u64 z.y.x.id, .slice z.y.x.A z.y.x.m z.y.x.c, .slice z.y.x.B z.y.x.d z.y.x.e, .slice z.y.x.C z.y.x.f z.y.x.g, .int .u64 z.x.id, .slice z.x.A z.x.m z.x.c, .slice z.x.B z.x.d z.x.e, .slice z.x.C z.x.f z.x.g, .slice z.A z.n z.c])) w) : wpList Tryz.prog ops Q (o :: rest) a w :=
  wpList_load_row hgd 50 x ho b hx _ (#[.int .i64 z.kind, .int .u16 z.who.i, .int .u32 z.who.k, .int .u64 z.view, .int .u64 z.slot, .int .u64 z.num, .int .i64 z.hops, .int .u32 z.b.r, .int .u16 z.b.p.i, .int .u32 z.b.p.k, .int .u32 z.a.r, .int .u16 z.a.p.i, .int .u32 z.a.p.k, .bool z.has, .int .i64 z.y.kind, .int .u16 z.y.p.i, .int .u32 z.y.p.k, .int .u64 z.y.num, .int .u64 z.y.vn, .slice z.y.A z.y.n z.y.c, .int .u64 z.y.x.id, .slice z.y.x.A z.y.x.m z.y.x.c, .slice z.y.x.B z.y.x.d z.y.x.e, .slice z.y.x.C z.y.x.f z.y.x.g, .int .u64 z.x.id, .slice z.x.A z.x.m z.x.c, .slice z.x.B z.x.d z.x.e, .slice z.x.C z.x.f z.x.g, .slice z.A z.n z.c] : Array Value) _ _ hg Tryz.underlying50 rfl size_msg h
theorem wpList_load_msg_yes {ops : Array Oper} {rest : List Oper} {o : Oper} {a : Act} {w : World} {Q : Exit → Act → World → Prop} (z : Mx) (b : Nat) (hw : Region.wanted o (yielded ops a.tmps) = true) (x : Operand) (ho : o.op = .load 50 x)
    (hx : a.eval x = .pointer (some ⟨b, 0, none⟩)) (hg : MAt10 w b z) (h : wpList Tryz.prog ops Q rest (a.put o.dst (.agg #[.int .i64 z.kind, .int .u16 z.who.i, .int .u32 z.who.k, .int .u64 z.view, .int .u64 z.slot, .int .u64 z.num, .int .i64 z.hops, .int .u32 z.b.r, .int .u16 z.b.p.i, .int .u32 z.b.p.k, .int .u32 z.a.r, .int .u16 z.a.p.i, .int .u32 z.a.p.k, .bool z.has, .int .i64 z.y.kind, .int .u16 z.y.p.i, .int .u32 z.y.p.k, .int .u64 z.y.num, .int .u64 z.y.vn, .slice z.y.A z.y.n z.y.c, .int .u64 z.y.x.id, .slice z.y.x.A z.y.x.m z.y.x.c, .slice z.y.x.B z.y.x.d z.y.x.e, .slice z.y.x.C z.y.x.f z.y.x.g, .int .u64 z.x.id, .slice z.x.A z.x.m z.x.c, .slice z.x.B z.x.d z.x.e, .slice z.x.C z.x.f z.x.g, .slice z.A z.n z.c])) w) : wpList Tryz.prog ops Q (o :: rest) a w :=
  BigFrame.wpList_want hw fun _ hK => wp_load_row 50 x ho b hx _ (#[.int .i64 z.kind, .int .u16 z.who.i, .int .u32 z.who.k, .int .u64 z.view, .int .u64 z.slot, .int .u64 z.num, .int .i64 z.hops, .int .u32 z.b.r, .int .u16 z.b.p.i, .int .u32 z.b.p.k, .int .u32 z.a.r, .int .u16 z.a.p.i, .int .u32 z.a.p.k, .bool z.has, .int .i64 z.y.kind, .int .u16 z.y.p.i, .int .u32 z.y.p.k, .int .u64 z.y.num, .int .u64 z.y.vn, .slice z.y.A z.y.n z.y.c, .int .u64 z.y.x.id, .slice z.y.x.A z.y.x.m z.y.x.c, .slice z.y.x.B z.y.x.d z.y.x.e, .slice z.y.x.C z.y.x.f z.y.x.g, .int .u64 z.x.id, .slice z.x.A z.x.m z.x.c, .slice z.x.B z.x.d z.x.e, .slice z.x.C z.x.f z.x.g, .slice z.A z.n z.c] : Array Value) _ _ hg Tryz.underlying50 rfl size_msg (hK _ _ h)
section
variable {H : Type} {enc : TypeId × Value → H} {w : World} {base : Nat}
end
end Go.Proofs.YtjmkecaljkcoiaaGreatDoor
namespace Go.Proofs.YtjmkecaljkcoiaaGreatDoor
open Go.RowKit Go.Maps
set_option linter.unusedVariables false
set_option linter.unusedSimpArgs false
def Kinds (w : World) : Prop := ∀ i, i < 15 → w.cell? ⟨0, i * 2 + 1, none⟩ = some (.int .u16 ((tabM i : Nat) : Int))
theorem Kinds.lt {w : World} (h : Kinds w) : 0 < w.heap.size := World.block_lt_of_cell? w _ (h 0 (by decide))
theorem Kinds.later {w w' : World} (h : Kinds w) (hb : Below w.heap.size w w') : Kinds w' := fun i hi => (hb.cell (p := ⟨0, i * 2 + 1, none⟩) h.lt).trans (h i hi)
theorem Kinds.turn {w w' : World} {b : Nat} {mg : Option Nat} (h : Kinds w) (ht : Turn w w' b mg) (h1 : 0 ≠ b) (h2 : some 0 ≠ mg) : Kinds w' := fun i hi => ht.cell (h i hi) h1 h2
set_option maxRecDepth 100000 in
theorem fwith_any (n k : Nat) (w : World) (t : Bool) (hn : n < 65536) (hk : k < 65536) (ht : t = (n &&& k != 0)) :
    Calls Tryz.prog 67 #[.int .u16 n, .int .u16 k] w fun e w' => e = .returned (.bool t) ∧ w = w' := by
  have e1 := u16_and_nat n k hn hk
  have e2 : (((n &&& k : Nat) : Int) != 0) = t := by
    rw [ht, Bool.eq_iff_iff, bne_iff_ne, bne_iff_ne]
    omega
  clear ht
  generalize (n &&& k : Nat) = q at *
  go_enter Tryz.func67, Tryz.ntmps67
  go_wp2
  go_ret
  exact ⟨rfl, rfl⟩
def MarkP (w : World) (b n : Nat) (e : Ending) (w' : World) : Prop := e = .returned (.tuple #[]) ∧ Turn w w' b none ∧ w'.heap[b]? = some (.cells #[.int .u16 n] 108)
theorem MarkP.out {w w' : World} {b n : Nat} {e : Ending} (h : MarkP w b n e w') : e = .returned (.tuple #[]) ∧ Turn w w' b none ∧ w'.heap[b]? = some (.cells #[.int .u16 n] 108) := h
set_option maxRecDepth 100000 in
theorem mark_any (b n k : Nat) (t : Bool) (w : World) (hn : n < 2048) (hk : k < 2048) (h : w.heap[b]? = some (.cells #[.int .u16 n] 108)) :
    Calls Tryz.prog 120 #[.pointer (some ⟨b, 0, none⟩), .int .u16 k, .bool t] w (MarkP w b (orN n k t)) := by
  have c0 : w.cell? ⟨b, 0, none⟩ = some (.int .u16 n) := cell_of_row _ _ 0 _ _ (0, 0) h
  have fz := frozen_of_row w b 0 _ _ h
  cases t
  · have hw : MarkP w b (orN n k false) (.returned (.tuple #[])) w := ⟨rfl, Turn.refl _ _ _, h⟩
    have HW := hide hw
    clear hw
    go_enter Tryz.func120, Tryz.ntmps120
    go_wp2
    first | go_end0 | refine bodyPost_ret (results_none rfl _ _ _) rfl ?_
    exact HW.out
  · have e1 := u16_or_nat n k (by omega) (by omega)
    have e2 : orN n k true = n ||| k := rfl
    have hw : MarkP w b (orN n k true) (.returned (.tuple #[])) (w.setCell ⟨b, 0, none⟩ (.int .u16 ((n ||| k : Nat) : Int))) := by
      refine ⟨rfl, (Turn.refl _ _ _).set_ rfl _, ?_⟩
      rw [e2]
      exact heap_setCell_at h
    have HW := hide hw
    clear hw e2
    generalize (n ||| k : Nat) = q at *
    go_enter Tryz.func120, Tryz.ntmps120
    go_wp2
    first | go_end0 | refine bodyPost_ret (results_none rfl _ _ _) rfl ?_
    exact HW.out
theorem tab_has {k : Nat} (hk : k < 15) (h5 : k ≠ 5) : (tabM k &&& 64 != 0) = false := by
  have : k = 0 ∨ k = 1 ∨ k = 2 ∨ k = 3 ∨ k = 4 ∨ k = 6 ∨ k = 7 ∨ k = 8 ∨ k = 9 ∨ k = 10 ∨ k = 11 ∨ k = 12 ∨ k = 13 ∨ k = 14 := by omega
  rcases this with rfl | rfl | rfl | rfl | rfl | rfl | rfl | rfl | rfl | rfl | rfl | rfl | rfl | rfl <;> decide
theorem bitsM_out {k : Int} {t : Bool} (h : ¬ (0 ≤ k ∧ k < 15)) : bitsM k t = 0 := by
  apply Classical.byContradiction
  intro hn
  have := bitsM_some.1 hn
  omega
theorem bitsM_of {k : Nat} {t : Bool} (h5 : k ≠ 5) : bitsM (k : Int) t = tabM k := by
  unfold bitsM
  rw [if_neg (by omega), Int.toNat_natCast]
set_option maxRecDepth 100000 in
theorem fieldsOf_any (z : Mx) (w : World) (hK : Kinds w) :
    Calls Tryz.prog 65 #[.agg #[.int .i64 z.kind, .int .u16 z.who.i, .int .u32 z.who.k, .int .u64 z.view, .int .u64 z.slot, .int .u64 z.num, .int .i64 z.hops, .int .u32 z.b.r, .int .u16 z.b.p.i, .int .u32 z.b.p.k, .int .u32 z.a.r, .int .u16 z.a.p.i, .int .u32 z.a.p.k, .bool z.has, .int .i64 z.y.kind, .int .u16 z.y.p.i, .int .u32 z.y.p.k, .int .u64 z.y.num, .int .u64 z.y.vn, .slice z.y.A z.y.n z.y.c, .int .u64 z.y.x.id, .slice z.y.x.A z.y.x.m z.y.x.c, .slice z.y.x.B z.y.x.d z.y.x.e, .slice z.y.x.C z.y.x.f z.y.x.g, .int .u64 z.x.id, .slice z.x.A z.x.m z.x.c, .slice z.x.B z.x.d z.x.e, .slice z.x.C z.x.f z.x.g, .slice z.A z.n z.c]] w fun e w' => e = .returned (.int .u16 ((bitsM z.kind z.has : Nat) : Int)) ∧ Below w.heap.size w w' := by
  have hbz : Below w.heap.size w (w.alloc (.cells #[.int .i64 z.kind, .int .u16 z.who.i, .int .u32 z.who.k, .int .u64 z.view, .int .u64 z.slot, .int .u64 z.num, .int .i64 z.hops, .int .u32 z.b.r, .int .u16 z.b.p.i, .int .u32 z.b.p.k, .int .u32 z.a.r, .int .u16 z.a.p.i, .int .u32 z.a.p.k, .bool z.has, .int .i64 z.y.kind, .int .u16 z.y.p.i, .int .u32 z.y.p.k, .int .u64 z.y.num, .int .u64 z.y.vn, .slice z.y.A z.y.n z.y.c, .int .u64 z.y.x.id, .slice z.y.x.A z.y.x.m z.y.x.c, .slice z.y.x.B z.y.x.d z.y.x.e, .slice z.y.x.C z.y.x.f z.y.x.g, .int .u64 z.x.id, .slice z.x.A z.x.m z.x.c, .slice z.x.B z.x.d z.x.e, .slice z.x.C z.x.f z.x.g, .slice z.A z.n z.c] 50)) := (Below.refl _ _).alloc (Nat.le_refl _) _
  have v0 := MAt10.mk_ w z
  have j0 := v0.cells.1
  have j13 := v0.cells.2.2.2.2.2.2.2.2.2.2.2.2.2.1
  have hs1 : (w.alloc (.cells #[.int .i64 z.kind, .int .u16 z.who.i, .int .u32 z.who.k, .int .u64 z.view, .int .u64 z.slot, .int .u64 z.num, .int .i64 z.hops, .int .u32 z.b.r, .int .u16 z.b.p.i, .int .u32 z.b.p.k, .int .u32 z.a.r, .int .u16 z.a.p.i, .int .u32 z.a.p.k, .bool z.has, .int .i64 z.y.kind, .int .u16 z.y.p.i, .int .u32 z.y.p.k, .int .u64 z.y.num, .int .u64 z.y.vn, .slice z.y.A z.y.n z.y.c, .int .u64 z.y.x.id, .slice z.y.x.A z.y.x.m z.y.x.c, .slice z.y.x.B z.y.x.d z.y.x.e, .slice z.y.x.C z.y.x.f z.y.x.g, .int .u64 z.x.id, .slice z.x.A z.x.m z.x.c, .slice z.x.B z.x.d z.x.e, .slice z.x.C z.x.f z.x.g, .slice z.A z.n z.c] 50)).heap.size = w.heap.size + 1 := by simp
  have hK1 := hK.later hbz
  generalize hw1 : w.alloc (.cells #[.int .i64 z.kind, .int .u16 z.who.i, .int .u32 z.who.k, .int .u64 z.view, .int .u64 z.slot, .int .u64 z.num, .int .i64 z.hops, .int .u32 z.b.r, .int .u16 z.b.p.i, .int .u32 z.b.p.k, .int .u32 z.a.r, .int .u16 z.a.p.i, .int .u32 z.a.p.k, .bool z.has, .int .i64 z.y.kind, .int .u16 z.y.p.i, .int .u32 z.y.p.k, .int .u64 z.y.num, .int .u64 z.y.vn, .slice z.y.A z.y.n z.y.c, .int .u64 z.y.x.id, .slice z.y.x.A z.y.x.m z.y.x.c, .slice z.y.x.B z.y.x.d z.y.x.e, .slice z.y.x.C z.y.x.f z.y.x.g, .int .u64 z.x.id, .slice z.x.A z.x.m z.x.c, .slice z.x.B z.x.d z.x.e, .slice z.x.C z.x.f z.x.g, .slice z.A z.n z.c] 50) = w1 at *
  by_cases h0 : z.kind < 0
  · have z0 : decide (z.kind < 0) = true := decide_eq_true h0
    have hf : (0 : Int) = ((bitsM z.kind z.has : Nat) : Int) := by rw [bitsM_out (by omega)]; rfl
    have HF := hide hf
    clear hf h0
    go_enter Tryz.func65, Tryz.ntmps65
    go_wp2
    go_ret
    exact ⟨ret_int HF.out, hbz⟩
  have z0 : decide (z.kind < 0) = false := decide_eq_false h0
  by_cases h1 : 15 ≤ z.kind
  · have z1 : decide (15 ≤ z.kind) = true := decide_eq_true h1
    have hf : (0 : Int) = ((bitsM z.kind z.has : Nat) : Int) := by rw [bitsM_out (by omega)]; rfl
    have HF := hide hf
    clear hf h0 h1
    go_enter Tryz.func65, Tryz.ntmps65
    go_wp2
    go_ret
    exact ⟨ret_int HF.out, hbz⟩
  have z1 : decide (15 ≤ z.kind) = false := decide_eq_false h1
  have hb1 : w.heap.size < w1.heap.size := v0.lt
  by_cases h5 : z.kind = 5
  · rw [h5] at hw1 j0 z0 z1 ⊢
    have kc : w1.cell? ⟨0, 11, none⟩ = some (.int .u16 76) := hK1 5 (by decide)
    clear h0 h1 h5
    have cw : ∀ W, Calls Tryz.prog 67 #[.int .u16 76, .int .u16 64] W (fun e w' => e = .returned (.bool true) ∧ W = w') := fun W => fwith_any 76 64 W true (by decide) (by decide) (by decide)
    have hf : orN 76 384 z.has = bitsM 5 z.has := by cases z.has <;> decide
    have cm : Calls Tryz.prog 120 #[.pointer (some ⟨w1.heap.size, 0, none⟩), .int .u16 384, .bool z.has] (w1.alloc (.cells #[.int .u16 76] 108)) (MarkP (w1.alloc (.cells #[.int .u16 76] 108)) w1.heap.size (orN 76 384 z.has)) :=
      mark_any w1.heap.size 76 384 z.has (w1.alloc (.cells #[.int .u16 76] 108)) (by decide) (by decide) (heap_alloc_new _ _)
    rw [hf, hs1] at cm
    generalize bitsM 5 z.has = q at *
    clear hf
    have hb2 := hbz.alloc hbz.size (.cells #[.int .u16 76] 108)
    have y13 := (v0.alloc (.cells #[.int .u16 76] 108)).cells.2.2.2.2.2.2.2.2.2.2.2.2.2.1
    have x0 : (w1.alloc (.cells #[.int .u16 76] 108)).cell? ⟨w1.heap.size, 0, none⟩ = some (.int .u16 76) := cell_of_row _ _ 0 _ _ (0, 0) (heap_alloc_new _ _)
    rw [hs1] at x0
    go_enter Tryz.func65, Tryz.ntmps65
    go_wp2_with fail
    refine (cw _).mono ?_
    rintro e w2 ⟨rfl, rfl⟩
    go_wp2_with fail
    refine cm.mono ?_
    intro e w2 hm
    obtain ⟨he, ht, hc⟩ := MarkP.out hm
    subst he
    have hb3 : Below w.heap.size w w2 := hb2.trans (ht.below hb2.size (by omega) (fun g hg => by cases hg))
    have x1 : w2.cell? ⟨w.heap.size + 1, 0, none⟩ = some (.int .u16 q) := cell_of_row _ _ 0 _ _ (0, 0) hc
    clear hc ht hb2 x0 y13 cm
    go_wp2
    go_ret
    exact ⟨rfl, hb3⟩
  obtain ⟨k, hk⟩ := Int.eq_ofNat_of_zero_le (show 0 ≤ z.kind by omega)
  rw [hk] at hw1 j0 z0 z1 ⊢
  have hk15 : k < 15 := by omega
  have hk15' : (k : Int) < 15 := by omega
  have h5' : k ≠ 5 := by omega
  have kc := hK1 k hk15
  clear h0 h1 hk h5
  have cw := fun W => fwith_any (tabM k) 64 W false (Nat.lt_of_lt_of_le (tabM_lt k) (by decide)) (by decide) (tab_has hk15 h5').symm
  rw [bitsM_of h5']
  generalize tabM k = q at *
  clear h5'
  go_enter Tryz.func65, Tryz.ntmps65
  go_wp2_with fail
  refine (cw _).mono ?_
  rintro e w2 ⟨rfl, rfl⟩
  go_wp2
  go_ret
  exact ⟨rfl, hbz.alloc hbz.size _⟩
end Go.Proofs.YtjmkecaljkcoiaaGreatDoor
