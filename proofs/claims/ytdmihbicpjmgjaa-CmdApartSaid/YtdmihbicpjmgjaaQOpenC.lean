/-
  Layer 9: commands in memory, and as they come in.
-/
import Derived.Test.YtdmihbicpjmgjaaQCmdM
import Derived.Test.YtdmihbicpjmgjaaQOpenV
import Derived.Test.YtdmihbicpjmgjaaQOpenF
import Derived.Test.YtdmihbicpjmgjaaQView2
namespace Go.Proofs.Ytdmihbicpjmgjaa
open Go.RowKit Go.ChangeShapes Go.WideShapes Go.ChangeAt
set_option linter.unusedVariables false
set_option linter.unusedSimpArgs false

/-- A command with its slices. -/
structure Cx where
  kind : Int
  p : Pr
  num : Nat
  vn : Nat
  A : Option Addr
  n : Nat
  c : Nat
  l : List UInt8
  x : Vw
/-- .. in plain words. -/
def Cx.m (y : Cx) : Cm := ⟨y.kind, y.p, y.num, y.vn, y.l, y.x.v⟩
structure CxIn (w : World) (B0 : Nat) (y : Cx) : Prop where
  k0 : -9223372036854775808 ≤ y.kind
  k1 : y.kind ≤ 9223372036854775807
  hn : y.num < 18446744073709551616
  hv : y.vn < 18446744073709551616
  bs : Bs w B0 y.A y.n y.l
  nc : y.n ≤ y.c
  room : y.c ≤ maxLen
  vw : VwIn w B0 y.x
theorem CxIn.below {w w' : World} {B0 : Nat} {y : Cx} (h : CxIn w B0 y) (hb : Below B0 w w') : CxIn w' B0 y := ⟨h.k0, h.k1, h.hn, h.hv, h.bs.below hb, h.nc, h.room, h.vw.below hb⟩
theorem CxIn.more {w : World} {B0 B1 : Nat} {y : Cx} (h : CxIn w B0 y) (hb : B0 ≤ B1) : CxIn w B1 y := ⟨h.k0, h.k1, h.hn, h.hv, h.bs.more hb, h.nc, h.room, h.vw.more hb⟩
theorem CxIn.alloc {w : World} {B0 : Nat} {y : Cx} (h : CxIn w B0 y) (hB : B0 ≤ w.heap.size) (o : Obj) : CxIn (w.alloc o) B0 y := h.below ((Below.refl _ _).alloc hB o)
/-- The block b is just this command. -/
def CAt (w : World) (b : Nat) (y : Cx) : Prop := w.heap[b]? = some (.cells #[.int .i64 y.kind, .int .u16 (y.p.i : Int), .int .u32 (y.p.k : Int), .int .u64 (y.num : Int), .int .u64 (y.vn : Int), .slice y.A y.n y.c, .int .u64 (y.x.id : Int), .slice y.x.A y.x.m y.x.c, .slice y.x.B y.x.d y.x.e, .slice y.x.C y.x.f y.x.g] 33)
theorem CAt.cells {w : World} {b : Nat} {y : Cx} (h : CAt w b y) : w.cell? ⟨b, 0, none⟩ = some (.int .i64 y.kind) ∧ w.cell? ⟨b, 1, none⟩ = some (.int .u16 (y.p.i : Int)) ∧ w.cell? ⟨b, 2, none⟩ = some (.int .u32 (y.p.k : Int)) ∧
    w.cell? ⟨b, 3, none⟩ = some (.int .u64 (y.num : Int)) ∧ w.cell? ⟨b, 4, none⟩ = some (.int .u64 (y.vn : Int)) ∧ w.cell? ⟨b, 5, none⟩ = some (.slice y.A y.n y.c) ∧
    w.cell? ⟨b, 6, none⟩ = some (.int .u64 (y.x.id : Int)) ∧ w.cell? ⟨b, 7, none⟩ = some (.slice y.x.A y.x.m y.x.c) ∧ w.cell? ⟨b, 8, none⟩ = some (.slice y.x.B y.x.d y.x.e) ∧ w.cell? ⟨b, 9, none⟩ = some (.slice y.x.C y.x.f y.x.g) := by
  have hf : ∀ z, w.cell? ⟨b, z, none⟩ = (#[.int .i64 y.kind, .int .u16 (y.p.i : Int), .int .u32 (y.p.k : Int), .int .u64 (y.num : Int), .int .u64 (y.vn : Int), .slice y.A y.n y.c, .int .u64 (y.x.id : Int), .slice y.x.A y.x.m y.x.c, .slice y.x.B y.x.d y.x.e, .slice y.x.C y.x.f y.x.g] : Array Value)[z]? := by
    intro z
    unfold CAt at h
    simp [World.cell?, h]
  exact ⟨hf 0, hf 1, hf 2, hf 3, hf 4, hf 5, hf 6, hf 7, hf 8, hf 9⟩
theorem CAt.lt {w : World} {b : Nat} {y : Cx} (h : CAt w b y) : b < w.heap.size := lt_of_heap h
theorem CAt.mk_ (w : World) (y : Cx) : CAt (w.alloc (.cells #[.int .i64 y.kind, .int .u16 (y.p.i : Int), .int .u32 (y.p.k : Int), .int .u64 (y.num : Int), .int .u64 (y.vn : Int), .slice y.A y.n y.c, .int .u64 (y.x.id : Int), .slice y.x.A y.x.m y.x.c, .slice y.x.B y.x.d y.x.e, .slice y.x.C y.x.f y.x.g] 33)) w.heap.size y := heap_alloc_new w _
theorem CAt.alloc {w : World} {b : Nat} {y : Cx} (h : CAt w b y) (o : Obj) : CAt (w.alloc o) b y := (Below.heap_alloc w o b h.lt).trans h
theorem CAt.below {w w' : World} {b B : Nat} {y : Cx} (h : CAt w b y) (hb : Below B w w') (hg : b < B) : CAt w' b y := (hb.block b hg).trans h
theorem CAt.later {w w' : World} {b : Nat} {y : Cx} (h : CAt w b y) (hb : Below w.heap.size w w') : CAt w' b y := h.below hb h.lt
theorem CAt.fz {w : World} {b : Nat} {y : Cx} (h : CAt w b y) (j : Nat) : w.frozen? ⟨b, j, none⟩ = false := frozen_of_row w b j _ _ h
theorem CAt.turn {w w' : World} {g b : Nat} {mg : Option Nat} {y : Cx} (h : CAt w g y) (ht : Turn w w' b mg) (h1 : g ≠ b) (h2 : some g ≠ mg) : CAt w' g y := (ht.block g h.lt h1 h2).trans h
theorem CAt.far {w : World} {b : Nat} {y : Cx} (h : CAt w b y) {a : Addr} (u : Value) (ha : b ≠ a.block) : CAt (w.setCell a u) b y := (heap_setCell_other w a b u ha).trans h
/-- At most so much is looked at. -/
structure CSmall (y : Cx) : Prop where
  n : y.n ≤ 400
  v : VSmall y.x

theorem cells_cmd : Try.prog.cellsOf 33 = 10 := by kernel_rfl
section
variable {H : Type} {enc : TypeId × Value → H} {w : World} {base : Nat}
theorem trod_struct6 {spare : Nat → Bool} {held : Bool} {P : Program} {t : TypeId} {f0 f1 f2 f3 f4 f5 : Field} {fuel : Nat} {cs : List Value} {x : DataW H × List MemPlace} (ht : P.underlying t = some (.struct #[f0, f1, f2, f3, f4, f5])) (h : DataW.trod enc P w base spare held fuel t cs = some x) :
    ∃ y0 y1 y2 y3 y4 y5 n, cs.length = P.cellsOf t ∧ DataW.trod enc P w base spare held n f0.type ((cs.drop f0.offset).take (P.cellsOf f0.type)) = some y0 ∧
      DataW.trod enc P w base spare held n f1.type ((cs.drop f1.offset).take (P.cellsOf f1.type)) = some y1 ∧ DataW.trod enc P w base spare held n f2.type ((cs.drop f2.offset).take (P.cellsOf f2.type)) = some y2 ∧
      DataW.trod enc P w base spare held n f3.type ((cs.drop f3.offset).take (P.cellsOf f3.type)) = some y3 ∧ DataW.trod enc P w base spare held n f4.type ((cs.drop f4.offset).take (P.cellsOf f4.type)) = some y4 ∧
      DataW.trod enc P w base spare held n f5.type ((cs.drop f5.offset).take (P.cellsOf f5.type)) = some y5 := by
  obtain ⟨xs, n, _, rfl, hl, hlen, hf⟩ := DataW.trod_struct ht h
  match xs, hlen with
  | [y0, y1, y2, y3, y4, y5], _ => exact ⟨y0, y1, y2, y3, y4, y5, n, hl, by simpa using hf 0 f0 rfl, by simpa using hf 1 f1 rfl, by simpa using hf 2 f2 rfl, by simpa using hf 3 f3 rfl, by simpa using hf 4 f4 rfl, by simpa using hf 5 f5 rfl⟩
set_option maxRecDepth 100000 in
theorem open_cmd {r : Reach} {b0 : Nat} {v : Value} {d : DataW H} {p : List MemPlace} (hv : Value.okWide Try.prog w r b0 33 v) (h : DataW.Trod enc Try.prog w base (fun _ => true) true 33 v d p) :
    ∃ y : Cx, v = .agg #[.int .i64 y.kind, .int .u16 (y.p.i : Int), .int .u32 (y.p.k : Int), .int .u64 (y.num : Int), .int .u64 (y.vn : Int), .slice y.A y.n y.c, .int .u64 (y.x.id : Int), .slice y.x.A y.x.m y.x.c, .slice y.x.B y.x.d y.x.e, .slice y.x.C y.x.f y.x.g] ∧ CxIn w w.heap.size y := by
  obtain ⟨cs, rfl, _⟩ := okWide_struct Try.underlying33 hv
  obtain ⟨fuel, hf⟩ := h
  obtain ⟨y0, y1, y2, y3, y4, y5, n, hl, h0, h1, h2, h3, h4, h5⟩ := trod_struct6 Try.underlying33 hf
  rw [cells_cmd] at hl
  generalize hcs : (Value.agg cs).cells.toList = L at hl h0 h1 h2 h3 h4 h5
  match L, hl with
  | [a0, a1, a2, a3, a4, a5, a6, a7, a8, a9], _ =>
    simp only [cells_int, cells_pid, cells_u64, cells_bytes, cells_view, List.drop_zero, List.drop_succ_cons, List.take_succ_cons, List.take_zero] at h0 h1 h2 h3 h4 h5
    obtain ⟨k, e0, _, hw⟩ := DataW.trod_int Try.underlying3 h0
    have hk := wf_i64 hw
    obtain ⟨i, c, e1, hi, hc⟩ := pid_cells h1
    obtain ⟨s, e2, hs⟩ := u64_cell h2
    obtain ⟨t, e3, ht⟩ := u64_cell h3
    obtain ⟨A, m, q, l, e4, hB, hnq, hq⟩ := bytes_cell h4
    obtain ⟨z, e5, hz⟩ := view_cells h5
    simp only [vwC, List.cons.injEq, and_true] at e0 e1 e2 e3 e5
    obtain ⟨rfl, rfl⟩ := e1
    obtain ⟨rfl, rfl, rfl, rfl⟩ := e5
    subst e0 e2 e3 e4
    refine ⟨⟨k, ⟨i, c, hi, hc⟩, s, t, A, m, q, l, z⟩, ?_, ⟨hk.1, hk.2, hs, ht, hB, hnq, hq, hz⟩⟩
    obtain ⟨l'⟩ := cs
    simp [Value.cells] at hcs
    rw [hcs]
end
end Go.Proofs.Ytdmihbicpjmgjaa
