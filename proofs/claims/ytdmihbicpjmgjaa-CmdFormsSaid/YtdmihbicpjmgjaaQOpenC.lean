/-
  The document's Reader: a process.
-/
import Derived.Test.YtdmihbicpjmgjaaQRfN
import Derived.Test.YtdmihbicpjmgjaaQCmdM
import Derived.Test.YtdmihbicpjmgjaaQOpenV
import Derived.Test.YtdmihbicpjmgjaaQOpenF
import Derived.Test.YtdmihbicpjmgjaaQView2
namespace Go.Proofs.Ytdmihbicpjmgjaa
open Go.RowKit Go.Maps
set_option linter.unusedVariables false
set_option linter.unusedSimpArgs false

set_option maxRecDepth 100000 in
set_option maxHeartbeats 1000000 in
theorem xpid_tot (b : Nat) (s : RS) (w : World) (h : RfAt w b s.l s.t) :
    Calls Try.prog 42 #[.pointer (some ⟨b, 0, none⟩)] w (ReadsF w b (.agg #[.int .u16 ((pidQ s).1.i : Int), .int .u32 ((pidQ s).1.k : Int)]) (pidQ s).2.l (pidQ s).2.t) := by
  obtain ⟨l, t⟩ := s
  dsimp only at h
  have hbl := h.lt
  obtain ⟨A, c, h⟩ := h
  have h1 := h.alloc (.cells #[.int .u16 0, .int .u32 0] 25)
  obtain ⟨f0, f1⟩ := h1.cells
  have fz := h1.frozen
  have hlc := h.2.2.1
  have hcm := h.2.2.2
  have hbz : Below w.heap.size w (w.alloc (.cells #[.int .u16 0, .int .u32 0] 25)) := (Below.refl _ _).alloc (Nat.le_refl _) _
  by_cases ht : t = 0
  case neg =>
    rw [pidQ_stop (s := ⟨l, t⟩) ht]
    have x1 : ((t : Int) != 0) = true := by simp only [bne_iff_ne, ne_eq]; omega
    have HQ := hide (And.intro h1.at_ ((Turn.refl w b none).alloc (.cells #[.int .u16 0, .int .u32 0] 25)))
    clear h h1 ht
    go_enter Try.func42, Try.ntmps42
    go_wp2
    refine bodyPost_ret (v := .agg #[.int .u16 0, .int .u32 0]) (by simp [results, Try.results42, go_sem]) rfl ⟨rfl, HQ.out.1, HQ.out.2⟩
  subst ht
  have cg := rgpid_any A l.length c l b (w.alloc (.cells #[.int .u16 0, .int .u32 0] 25)) h1.2.1 (by simp; omega) hlc hcm
  have hbd := pidG_bds l
  have hN : pidQ ⟨l, 0⟩ = if (pidG l).2.2.2 = 0 then (prOf l, ⟨l.drop (pidG l).2.2.1, 0⟩) else (default, ⟨l, (pidG l).2.2.2⟩) := by
    unfold pidQ
    rw [if_pos rfl]
  have hpi : (prOf l).i = (pidG l).1 := rfl
  have hpk : (prOf l).k = (pidG l).2.1 := rfl
  unfold GetsP at cg
  generalize prOf l = P at *
  generalize pidG l = r at *
  obtain ⟨i, k, u, e⟩ := r
  dsimp only at cg hbd hN hpi hpk
  unfold maxLen at hcm
  by_cases he : e = 0
  case neg =>
    rw [hN, if_neg he]
    have x1 : ((e : Int) != 0) = true := by simp only [bne_iff_ne, ne_eq]; omega
    clear he hN hbd h hpi hpk
    go_enter Try.func42, Try.ntmps42
    go_wp2_with fail
    refine cg.mono ?_
    rintro e9 w9 ⟨rfl, hb9⟩
    have h9 := h1.later hb9
    obtain ⟨g0, g1⟩ := h9.cells
    have gz := h9.frozen 1
    have hs9 : w.heap.size < w9.heap.size := by have := hb9.size; simp at this; omega
    have zz : Blk (w.alloc (.cells #[.int .u16 0, .int .u32 0] 25)) w.heap.size #[.int .u16 0, .int .u32 0] 25 := heap_alloc_new w _
    have z9 := zz.later hb9
    have r0 : w9.cell? ⟨w.heap.size, 0, none⟩ = some (.int .u16 0) := z9.cell 0
    have r1 : w9.cell? ⟨w.heap.size, 1, none⟩ = some (.int .u32 0) := z9.cell 1
    have y0 := z9.frozen 0
    have y1 := z9.frozen 1
    have hb9b : b < w9.heap.size := by omega
    have hT : Turn w w9 b none := Turn.of_below (hbz.trans (hb9.mono hbz.size)) _ _
    have q1 := ((((h9.set1 e).other (p := ⟨w.heap.size, 0, none⟩) hbl (.int .u16 0)).other (p := ⟨w.heap.size, 1, none⟩) hbl (.int .u32 0)).alloc (.cells #[.int .u16 (i : Int), .int .u32 (k : Int)] 25)).at_
    have q2 := (((hT.set_ (p := ⟨b, 1, none⟩) rfl (.int .i64 (e : Int))).setNew (p := ⟨w.heap.size, 0, none⟩) (Nat.le_refl _) (.int .u16 0)).setNew (p := ⟨w.heap.size, 1, none⟩) (Nat.le_refl _) (.int .u32 0)).alloc (.cells #[.int .u16 (i : Int), .int .u32 (k : Int)] 25)
    have HQ := hide (And.intro q1 q2)
    have zf := (((z9.other (q := ⟨b, 1, none⟩) (by show b ≠ w.heap.size; omega) (.int .i64 (e : Int))).set_ 0 (.int .u16 0)).set_ 1 (.int .u32 0)).later ((Below.refl _ _).alloc (Nat.le_refl _) (.cells #[.int .u16 (i : Int), .int .u32 (k : Int)] 25))
    have t0 := zf.cell 0
    have t1 := zf.cell 1
    have HZF := hide (And.intro t0 t1)
    clear cg f0 f1 fz q1 q2 hT h9 h1 zz z9 zf t0 t1
    go_wp2
    obtain ⟨t0, t1⟩ := HZF.out
    simp at t0 t1
    refine bodyPost_ret (v := .agg #[.int .u16 0, .int .u32 0]) (by first | (simp [results, Try.results42, go_sem]; done) | (simp [results, Try.results42, go_sem, t0, t1])) rfl ⟨rfl, HQ.out.1, HQ.out.2⟩
  subst he
  rw [hN, if_pos rfl]
  have hkl : u ≤ l.length := hbd.2.2.1
  have hi' := hbd.1
  have hk' := hbd.2.1
  dsimp only
  rw [hpi, hpk]
  clear hN hpi hpk hbd h
  go_enter Try.func42, Try.ntmps42
  go_wp2_with fail
  refine cg.mono ?_
  rintro e9 w9 ⟨rfl, hb9⟩
  have h9 := h1.later hb9
  obtain ⟨g0, g1⟩ := h9.cells
  have gz := h9.frozen 0
  have hs9 : w.heap.size < w9.heap.size := by have := hb9.size; simp at this; omega
  have zz : Blk (w.alloc (.cells #[.int .u16 0, .int .u32 0] 25)) w.heap.size #[.int .u16 0, .int .u32 0] 25 := heap_alloc_new w _
  have z9 := zz.later hb9
  have r0 : w9.cell? ⟨w.heap.size, 0, none⟩ = some (.int .u16 0) := z9.cell 0
  have r1 : w9.cell? ⟨w.heap.size, 1, none⟩ = some (.int .u32 0) := z9.cell 1
  have y0 := z9.frozen 0
  have y1 := z9.frozen 1
  have hb9b : b < w9.heap.size := by omega
  have hT : Turn w w9 b none := Turn.of_below (hbz.trans (hb9.mono hbz.size)) _ _
  have hz := h9.cut hkl
  generalize hn : l.length = q at *
  clear hn
  by_cases hck : c = u
  · obtain rfl : q = u := by omega
    obtain rfl := hck
    rw [if_pos rfl, Nat.sub_self] at hz
    have q1 := (((hz.other (p := ⟨w.heap.size, 0, none⟩) hbl (.int .u16 (i : Int))).other (p := ⟨w.heap.size, 1, none⟩) hbl (.int .u32 (k : Int))).alloc (.cells #[.int .u16 (i : Int), .int .u32 (k : Int)] 25)).at_
    have q2 := (((hT.set_ (p := ⟨b, 0, none⟩) rfl (.slice A 0 0)).setNew (p := ⟨w.heap.size, 0, none⟩) (Nat.le_refl _) (.int .u16 (i : Int))).setNew (p := ⟨w.heap.size, 1, none⟩) (Nat.le_refl _) (.int .u32 (k : Int))).alloc (.cells #[.int .u16 (i : Int), .int .u32 (k : Int)] 25)
    have HQ := hide (And.intro q1 q2)
    have zf := (((z9.other (q := ⟨b, 0, none⟩) (by show b ≠ w.heap.size; omega) (.slice A 0 0)).set_ 0 (.int .u16 (i : Int))).set_ 1 (.int .u32 (k : Int))).later ((Below.refl _ _).alloc (Nat.le_refl _) (.cells #[.int .u16 (i : Int), .int .u32 (k : Int)] 25))
    have t0 := zf.cell 0
    have t1 := zf.cell 1
    have HZF := hide (And.intro t0 t1)
    clear cg f0 f1 fz q1 q2 hT h9 h1 zz z9 hz zf t0 t1
    go_wp2
    obtain ⟨t0, t1⟩ := HZF.out
    simp at t0 t1
    refine bodyPost_ret (v := .agg #[.int .u16 (i : Int), .int .u32 (k : Int)]) (by first | (simp [results, Try.results42, go_sem]; done) | (simp [results, Try.results42, go_sem, t0, t1])) rfl ⟨rfl, HQ.out.1, HQ.out.2⟩
  · rw [if_neg hck] at hz
    have hlt : u < c := by omega
    have q1 := (((hz.other (p := ⟨w.heap.size, 0, none⟩) hbl (.int .u16 (i : Int))).other (p := ⟨w.heap.size, 1, none⟩) hbl (.int .u32 (k : Int))).alloc (.cells #[.int .u16 (i : Int), .int .u32 (k : Int)] 25)).at_
    have q2 := (((hT.set_ (p := ⟨b, 0, none⟩) rfl (.slice (A.map (·.add u)) (q - u) (c - u))).setNew (p := ⟨w.heap.size, 0, none⟩) (Nat.le_refl _) (.int .u16 (i : Int))).setNew (p := ⟨w.heap.size, 1, none⟩) (Nat.le_refl _) (.int .u32 (k : Int))).alloc (.cells #[.int .u16 (i : Int), .int .u32 (k : Int)] 25)
    have HQ := hide (And.intro q1 q2)
    have zf := (((z9.other (q := ⟨b, 0, none⟩) (by show b ≠ w.heap.size; omega) (.slice (A.map (·.add u)) (q - u) (c - u))).set_ 0 (.int .u16 (i : Int))).set_ 1 (.int .u32 (k : Int))).later ((Below.refl _ _).alloc (Nat.le_refl _) (.cells #[.int .u16 (i : Int), .int .u32 (k : Int)] 25))
    have t0 := zf.cell 0
    have t1 := zf.cell 1
    have HZF := hide (And.intro t0 t1)
    clear cg f0 f1 fz q1 q2 hT h9 h1 zz z9 hz zf t0 t1
    go_wp2
    obtain ⟨t0, t1⟩ := HZF.out
    simp at t0 t1
    refine bodyPost_ret (v := .agg #[.int .u16 (i : Int), .int .u32 (k : Int)]) (by first | (simp [results, Try.results42, go_sem]; done) | (simp [results, Try.results42, go_sem, t0, t1])) rfl ⟨rfl, HQ.out.1, HQ.out.2⟩
end Go.Proofs.Ytdmihbicpjmgjaa
namespace Go.Proofs.Ytdmihbicpjmgjaa
open Go.RowKit Go.ChangeShapes Go.WideShapes Go.ChangeAt
set_option linter.unusedVariables false
set_option linter.unusedSimpArgs false

/-- A command with its slices. -/
structure Cx where
  kind : Int
  p : Pr
  num : Nat
  vn : Nat
  A : Option Addr
  n : Nat
  c : Nat
  l : List UInt8
  x : Vw
/-- .. in plain words. -/
def Cx.m (y : Cx) : Cm := ⟨y.kind, y.p, y.num, y.vn, y.l, y.x.v⟩
structure CxIn (w : World) (B0 : Nat) (y : Cx) : Prop where
  k0 : -9223372036854775808 ≤ y.kind
  k1 : y.kind ≤ 9223372036854775807
  hn : y.num < 18446744073709551616
  hv : y.vn < 18446744073709551616
  bs : Bs w B0 y.A y.n y.l
  nc : y.n ≤ y.c
  room : y.c ≤ maxLen
  vw : VwIn w B0 y.x
theorem CxIn.below {w w' : World} {B0 : Nat} {y : Cx} (h : CxIn w B0 y) (hb : Below B0 w w') : CxIn w' B0 y := ⟨h.k0, h.k1, h.hn, h.hv, h.bs.below hb, h.nc, h.room, h.vw.below hb⟩
theorem CxIn.more {w : World} {B0 B1 : Nat} {y : Cx} (h : CxIn w B0 y) (hb : B0 ≤ B1) : CxIn w B1 y := ⟨h.k0, h.k1, h.hn, h.hv, h.bs.more hb, h.nc, h.room, h.vw.more hb⟩
theorem CxIn.alloc {w : World} {B0 : Nat} {y : Cx} (h : CxIn w B0 y) (hB : B0 ≤ w.heap.size) (o : Obj) : CxIn (w.alloc o) B0 y := h.below ((Below.refl _ _).alloc hB o)
/-- The block b is just this command. -/
def CAt (w : World) (b : Nat) (y : Cx) : Prop := w.heap[b]? = some (.cells #[.int .i64 y.kind, .int .u16 (y.p.i : Int), .int .u32 (y.p.k : Int), .int .u64 (y.num : Int), .int .u64 (y.vn : Int), .slice y.A y.n y.c, .int .u64 (y.x.id : Int), .slice y.x.A y.x.m y.x.c, .slice y.x.B y.x.d y.x.e, .slice y.x.C y.x.f y.x.g] 33)
theorem CAt.cells {w : World} {b : Nat} {y : Cx} (h : CAt w b y) : w.cell? ⟨b, 0, none⟩ = some (.int .i64 y.kind) ∧ w.cell? ⟨b, 1, none⟩ = some (.int .u16 (y.p.i : Int)) ∧ w.cell? ⟨b, 2, none⟩ = some (.int .u32 (y.p.k : Int)) ∧
    w.cell? ⟨b, 3, none⟩ = some (.int .u64 (y.num : Int)) ∧ w.cell? ⟨b, 4, none⟩ = some (.int .u64 (y.vn : Int)) ∧ w.cell? ⟨b, 5, none⟩ = some (.slice y.A y.n y.c) ∧
    w.cell? ⟨b, 6, none⟩ = some (.int .u64 (y.x.id : Int)) ∧ w.cell? ⟨b, 7, none⟩ = some (.slice y.x.A y.x.m y.x.c) ∧ w.cell? ⟨b, 8, none⟩ = some (.slice y.x.B y.x.d y.x.e) ∧ w.cell? ⟨b, 9, none⟩ = some (.slice y.x.C y.x.f y.x.g) := by
  have hf : ∀ z, w.cell? ⟨b, z, none⟩ = (#[.int .i64 y.kind, .int .u16 (y.p.i : Int), .int .u32 (y.p.k : Int), .int .u64 (y.num : Int), .int .u64 (y.vn : Int), .slice y.A y.n y.c, .int .u64 (y.x.id : Int), .slice y.x.A y.x.m y.x.c, .slice y.x.B y.x.d y.x.e, .slice y.x.C y.x.f y.x.g] : Array Value)[z]? := by
    intro z
    unfold CAt at h
    simp [World.cell?, h]
  exact ⟨hf 0, hf 1, hf 2, hf 3, hf 4, hf 5, hf 6, hf 7, hf 8, hf 9⟩
theorem CAt.lt {w : World} {b : Nat} {y : Cx} (h : CAt w b y) : b < w.heap.size := lt_of_heap h
theorem CAt.mk_ (w : World) (y : Cx) : CAt (w.alloc (.cells #[.int .i64 y.kind, .int .u16 (y.p.i : Int), .int .u32 (y.p.k : Int), .int .u64 (y.num : Int), .int .u64 (y.vn : Int), .slice y.A y.n y.c, .int .u64 (y.x.id : Int), .slice y.x.A y.x.m y.x.c, .slice y.x.B y.x.d y.x.e, .slice y.x.C y.x.f y.x.g] 33)) w.heap.size y := heap_alloc_new w _
theorem CAt.alloc {w : World} {b : Nat} {y : Cx} (h : CAt w b y) (o : Obj) : CAt (w.alloc o) b y := (Below.heap_alloc w o b h.lt).trans h
theorem CAt.below {w w' : World} {b B : Nat} {y : Cx} (h : CAt w b y) (hb : Below B w w') (hg : b < B) : CAt w' b y := (hb.block b hg).trans h
theorem CAt.later {w w' : World} {b : Nat} {y : Cx} (h : CAt w b y) (hb : Below w.heap.size w w') : CAt w' b y := h.below hb h.lt
theorem CAt.fz {w : World} {b : Nat} {y : Cx} (h : CAt w b y) (j : Nat) : w.frozen? ⟨b, j, none⟩ = false := frozen_of_row w b j _ _ h
theorem CAt.turn {w w' : World} {g b : Nat} {mg : Option Nat} {y : Cx} (h : CAt w g y) (ht : Turn w w' b mg) (h1 : g ≠ b) (h2 : some g ≠ mg) : CAt w' g y := (ht.block g h.lt h1 h2).trans h
theorem CAt.far {w : World} {b : Nat} {y : Cx} (h : CAt w b y) {a : Addr} (u : Value) (ha : b ≠ a.block) : CAt (w.setCell a u) b y := (heap_setCell_other w a b u ha).trans h
/-- At most so much is looked at. -/
structure CSmall (y : Cx) : Prop where
  n : y.n ≤ 400
  v : VSmall y.x

theorem cells_cmd : Try.prog.cellsOf 33 = 10 := by kernel_rfl
section
variable {H : Type} {enc : TypeId × Value → H} {w : World} {base : Nat}
theorem trod_struct6 {spare : Nat → Bool} {held : Bool} {P : Program} {t : TypeId} {f0 f1 f2 f3 f4 f5 : Field} {fuel : Nat} {cs : List Value} {x : DataW H × List MemPlace} (ht : P.underlying t = some (.struct #[f0, f1, f2, f3, f4, f5])) (h : DataW.trod enc P w base spare held fuel t cs = some x) :
    ∃ y0 y1 y2 y3 y4 y5 n, cs.length = P.cellsOf t ∧ DataW.trod enc P w base spare held n f0.type ((cs.drop f0.offset).take (P.cellsOf f0.type)) = some y0 ∧
      DataW.trod enc P w base spare held n f1.type ((cs.drop f1.offset).take (P.cellsOf f1.type)) = some y1 ∧ DataW.trod enc P w base spare held n f2.type ((cs.drop f2.offset).take (P.cellsOf f2.type)) = some y2 ∧
      DataW.trod enc P w base spare held n f3.type ((cs.drop f3.offset).take (P.cellsOf f3.type)) = some y3 ∧ DataW.trod enc P w base spare held n f4.type ((cs.drop f4.offset).take (P.cellsOf f4.type)) = some y4 ∧
      DataW.trod enc P w base spare held n f5.type ((cs.drop f5.offset).take (P.cellsOf f5.type)) = some y5 := by
  obtain ⟨xs, n, _, rfl, hl, hlen, hf⟩ := DataW.trod_struct ht h
  match xs, hlen with
  | [y0, y1, y2, y3, y4, y5], _ => exact ⟨y0, y1, y2, y3, y4, y5, n, hl, by simpa using hf 0 f0 rfl, by simpa using hf 1 f1 rfl, by simpa using hf 2 f2 rfl, by simpa using hf 3 f3 rfl, by simpa using hf 4 f4 rfl, by simpa using hf 5 f5 rfl⟩
set_option maxRecDepth 100000 in
theorem open_cmd {r : Reach} {b0 : Nat} {v : Value} {d : DataW H} {p : List MemPlace} (hv : Value.okWide Try.prog w r b0 33 v) (h : DataW.Trod enc Try.prog w base (fun _ => true) true 33 v d p) :
    ∃ y : Cx, v = .agg #[.int .i64 y.kind, .int .u16 (y.p.i : Int), .int .u32 (y.p.k : Int), .int .u64 (y.num : Int), .int .u64 (y.vn : Int), .slice y.A y.n y.c, .int .u64 (y.x.id : Int), .slice y.x.A y.x.m y.x.c, .slice y.x.B y.x.d y.x.e, .slice y.x.C y.x.f y.x.g] ∧ CxIn w w.heap.size y := by
  obtain ⟨cs, rfl, _⟩ := okWide_struct Try.underlying33 hv
  obtain ⟨fuel, hf⟩ := h
  obtain ⟨y0, y1, y2, y3, y4, y5, n, hl, h0, h1, h2, h3, h4, h5⟩ := trod_struct6 Try.underlying33 hf
  rw [cells_cmd] at hl
  generalize hcs : (Value.agg cs).cells.toList = L at hl h0 h1 h2 h3 h4 h5
  match L, hl with
  | [a0, a1, a2, a3, a4, a5, a6, a7, a8, a9], _ =>
    simp only [cells_int, cells_pid, cells_u64, cells_bytes, cells_view, List.drop_zero, List.drop_succ_cons, List.take_succ_cons, List.take_zero] at h0 h1 h2 h3 h4 h5
    obtain ⟨k, e0, _, hw⟩ := DataW.trod_int Try.underlying3 h0
    have hk := wf_i64 hw
    obtain ⟨i, c, e1, hi, hc⟩ := pid_cells h1
    obtain ⟨s, e2, hs⟩ := u64_cell h2
    obtain ⟨t, e3, ht⟩ := u64_cell h3
    obtain ⟨A, m, q, l, e4, hB, hnq, hq⟩ := bytes_cell h4
    obtain ⟨z, e5, hz⟩ := view_cells h5
    simp only [vwC, List.cons.injEq, and_true] at e0 e1 e2 e3 e5
    obtain ⟨rfl, rfl⟩ := e1
    obtain ⟨rfl, rfl, rfl, rfl⟩ := e5
    subst e0 e2 e3 e4
    refine ⟨⟨k, ⟨i, c, hi, hc⟩, s, t, A, m, q, l, z⟩, ?_, ⟨hk.1, hk.2, hs, ht, hB, hnq, hq, hz⟩⟩
    obtain ⟨l'⟩ := cs
    simp [Value.cells] at hcs
    rw [hcs]
end
end Go.Proofs.Ytdmihbicpjmgjaa
