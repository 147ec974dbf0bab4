/-
  The law choraguslaw09.CmdBack answers true, and does not panic, for every argument that its row allows. Conditions: none but the row's own.
-/
import Derived.Test.YtdmihbicpjmgjaaRows
import Derived.WalkKit
import Derived.ProofKit
import Derived.OpenShut
import Derived.ShutString
import Derived.ChangeOld
import Derived.Below
import Derived.Test.YtdmihbicpjmgjaaQOpenF
import Derived.Test.YtdmihbicpjmgjaaQRdW
namespace Go.Proofs.Ytdmihbicpjmgjaa.cmdBack
open Go.ChangeShapes Go.WideShapes Go.ChangeAt Go.RowKit
open Go.ChangeMaps (open_string shut_string)
set_option linter.unusedVariables false
set_option linter.unusedSimpArgs false

/-- A row of bytes that may be stored anew. -/
def ByteRow (w : World) (g n : Nat) : Prop := ∀ i, i < n → (∃ v : Int, w.cell? ⟨g, i, none⟩ = some (.int .u8 v)) ∧ w.frozen? ⟨g, i, none⟩ = false
theorem ByteRow.set {w : World} {g n : Nat} (h : ByteRow w g n) (i : Nat) (v : Int) (hi : i < n) : ByteRow (w.setCell ⟨g, i, none⟩ (.int .u8 v)) g n := fun j hj => by
  obtain ⟨⟨u, hu⟩, hf⟩ := h j hj
  refine ⟨?_, by rw [World.frozen?_setCell]; exact hf⟩
  obtain ⟨⟨u', hu'⟩, _⟩ := h i hi
  by_cases e : i = j
  · subst e
    exact ⟨v, World.cell?_setCell_same w _ _ hu'⟩
  · exact ⟨u, by rw [World.cell?_setCell_other w _ _ _ (fun e' => e (by injection e'))]; exact hu⟩
/-- What the law holds while the copy's data are turned. -/
structure LoopS (w W : World) (x y z : Cx) (gz gw : Nat) (mg : Option Nat) (L : List UInt8) : Prop where
  v0 : CAt W w.heap.size x
  v1 : CAt W (w.heap.size + 1) y
  vz : CAt W gz z
  wr : WrAt W gw gw mg L
  row : ∀ g, z.A = some ⟨g, 0, none⟩ → 0 < z.n → ByteRow W g z.n ∧ w.heap.size + 1 < g ∧ g < gz
  below : Below w.heap.size w W
  hgz : gz < gw
theorem LoopS.set {w W : World} {x y z : Cx} {gz gw g : Nat} {mg : Option Nat} {L : List UInt8} (h : LoopS w W x y z gz gw mg L) (hg : z.A = some ⟨g, 0, none⟩) (i : Nat) (v : Int) (hi : i < z.n) : LoopS w (W.setCell ⟨g, i, none⟩ (.int .u8 v)) x y z gz gw mg L := by
  have hn : 0 < z.n := by omega
  obtain ⟨r1, r2, r3⟩ := h.row g hg hn
  have hz := h.hgz
  refine ⟨h.v0.far _ (by show w.heap.size ≠ g; omega), h.v1.far _ (by show w.heap.size + 1 ≠ g; omega), h.vz.far _ (by show gz ≠ g; omega), h.wr.keep (heap_setCell_other W _ _ _ (by show gw ≠ g; omega)) (fun g' hg' => heap_setCell_other W _ _ _ (by have := (h.wr.mlt g' hg').1; show g' ≠ g; omega)), fun g' hg' _ => ?_, h.below.setCell (by show w.heap.size ≤ g; omega) _, hz⟩
  rw [hg] at hg'
  injection hg' with e
  injection e with e1
  subst e1
  exact ⟨r1.set i v hi, r2, r3⟩
theorem LoopS.drew {w W : World} {x y z : Cx} {gz gw : Nat} {mg : Option Nat} {L : List UInt8} (h : LoopS w W x y z gz gw mg L) : LoopS w W.drew x y z gz gw mg L := ⟨h.v0, h.v1, h.vz, h.wr, h.row, h.below.drew, h.hgz⟩
theorem OwnB.row9 {w : World} {base n c g : Nat} {l : List UInt8} (h : OwnB w base (.slice (some ⟨g, 0, none⟩) n c) n l) : ByteRow w g n := fun i hi => by
  have hl := OwnB.len h
  exact ⟨⟨_, OwnB.cell h hi (by omega)⟩, OwnB.frozen h i⟩
theorem ByteRow.keep {w w' : World} {g n : Nat} (h : ByteRow w g n) (hk : w'.heap[g]? = w.heap[g]?) : ByteRow w' g n := fun i hi => by
  obtain ⟨⟨u, hu⟩, hf⟩ := h i hi
  exact ⟨⟨u, by simp only [World.cell?, hk] at hu ⊢; exact hu⟩, by simp only [World.frozen?, hk] at hf ⊢; exact hf⟩
theorem ByteRow.below {w w' : World} {g n B : Nat} (h : ByteRow w g n) (hb : Below B w w') (hg : g < B) : ByteRow w' g n := fun i hi => by
  obtain ⟨⟨u, hu⟩, hf⟩ := h i hi
  exact ⟨⟨u, (hb.cell (p := ⟨g, i, none⟩) hg).trans hu⟩, (hb.frozen (p := ⟨g, i, none⟩) hg).trans hf⟩
set_option maxRecDepth 100000 in
set_option maxHeartbeats 8000000 in
theorem walk (x y : Cx) (w : World) (h : CxIn w w.heap.size x) (h' : CxIn w w.heap.size y) :
    Calls Try.prog 4 #[.agg #[.int .i64 x.kind, .int .u16 (x.p.i : Int), .int .u32 (x.p.k : Int), .int .u64 (x.num : Int), .int .u64 (x.vn : Int), .slice x.A x.n x.c, .int .u64 (x.x.id : Int), .slice x.x.A x.x.m x.x.c, .slice x.x.B x.x.d x.x.e, .slice x.x.C x.x.f x.x.g], .agg #[.int .i64 y.kind, .int .u16 (y.p.i : Int), .int .u32 (y.p.k : Int), .int .u64 (y.num : Int), .int .u64 (y.vn : Int), .slice y.A y.n y.c, .int .u64 (y.x.id : Int), .slice y.x.A y.x.m y.x.c, .slice y.x.B y.x.d y.x.e, .slice y.x.C y.x.f y.x.g]] w fun e w' => e = .returned (.bool true) ∧ Below w.heap.size w w' := by
  have hbz : Below w.heap.size w ((w.alloc (.cells #[.int .i64 x.kind, .int .u16 (x.p.i : Int), .int .u32 (x.p.k : Int), .int .u64 (x.num : Int), .int .u64 (x.vn : Int), .slice x.A x.n x.c, .int .u64 (x.x.id : Int), .slice x.x.A x.x.m x.x.c, .slice x.x.B x.x.d x.x.e, .slice x.x.C x.x.f x.x.g] 33)).alloc (.cells #[.int .i64 y.kind, .int .u16 (y.p.i : Int), .int .u32 (y.p.k : Int), .int .u64 (y.num : Int), .int .u64 (y.vn : Int), .slice y.A y.n y.c, .int .u64 (y.x.id : Int), .slice y.x.A y.x.m y.x.c, .slice y.x.B y.x.d y.x.e, .slice y.x.C y.x.f y.x.g] 33)) := ((Below.refl _ _).alloc (Nat.le_refl _) _).alloc (by simp) _
  have v0 := (CAt.mk_ w x).alloc (.cells #[.int .i64 y.kind, .int .u16 (y.p.i : Int), .int .u32 (y.p.k : Int), .int .u64 (y.num : Int), .int .u64 (y.vn : Int), .slice y.A y.n y.c, .int .u64 (y.x.id : Int), .slice y.x.A y.x.m y.x.c, .slice y.x.B y.x.d y.x.e, .slice y.x.C y.x.f y.x.g] 33)
  have v1 := CAt.mk_ (w.alloc (.cells #[.int .i64 x.kind, .int .u16 (x.p.i : Int), .int .u32 (x.p.k : Int), .int .u64 (x.num : Int), .int .u64 (x.vn : Int), .slice x.A x.n x.c, .int .u64 (x.x.id : Int), .slice x.x.A x.x.m x.x.c, .slice x.x.B x.x.d x.x.e, .slice x.x.C x.x.f x.x.g] 33)) y
  simp only [World.size_alloc] at v1
  generalize hw2 : ((w.alloc (.cells #[.int .i64 x.kind, .int .u16 (x.p.i : Int), .int .u32 (x.p.k : Int), .int .u64 (x.num : Int), .int .u64 (x.vn : Int), .slice x.A x.n x.c, .int .u64 (x.x.id : Int), .slice x.x.A x.x.m x.x.c, .slice x.x.B x.x.d x.x.e, .slice x.x.C x.x.f x.x.g] 33)).alloc (.cells #[.int .i64 y.kind, .int .u16 (y.p.i : Int), .int .u32 (y.p.k : Int), .int .u64 (y.num : Int), .int .u64 (y.vn : Int), .slice y.A y.n y.c, .int .u64 (y.x.id : Int), .slice y.x.A y.x.m y.x.c, .slice y.x.B y.x.d y.x.e, .slice y.x.C y.x.f y.x.g] 33)) = w2 at *
  have AW := fun W (hb : Below w.heap.size w W) => (awake9_any W).mono (fun e w' (hh : e = .returned (.bool true) ∧ Below W.heap.size W w') => (⟨hh.1, hb.trans (hh.2.mono hb.size)⟩ : e = .returned (.bool true) ∧ Below w.heap.size w w'))
  have cg := great9_any x w.heap.size w2 (h.below hbz) hbz.size
  unfold Great9P at cg
  obtain ⟨j0, j1, j2, j3, j4, j5, j6, j7, j8, j9⟩ := v0.cells
  obtain ⟨g0, g1, g2, g3, g4, g5, g6, g7, g8, g9⟩ := v1.cells
  go_enter Try.func4, Try.ntmps4
  go_wp2_with fail
  refine cg.mono ?_
  rintro e w3 ⟨gb, rfl, hsm, hb⟩
  have hb3 := hbz.trans (hb.mono hbz.size)
  have v03 := v0.later hb
  have v13 := v1.later hb
  clear cg hw2 hb hbz v0 v1 j0 j1 j2 j3 j4 j5 j6 j7 j8 j9 g0 g1 g2 g3 g4 g5 g6 g7 g8 g9
  obtain ⟨j0, j1, j2, j3, j4, j5, j6, j7, j8, j9⟩ := v03.cells
  obtain ⟨g0, g1, g2, g3, g4, g5, g6, g7, g8, g9⟩ := v13.cells
  cases gb
  case true =>
    clear hsm
    have aw := AW w3 hb3
    go_wp2_with fail
    refine aw.mono ?_
    rintro e w4 ⟨rfl, hb4⟩
    go_wp2
    go_ret
    exact ⟨rfl, hb4⟩
  have hs := hsm rfl
  clear hsm
  have cg := great9_any y w.heap.size w3 (h'.below hb3) hb3.size
  unfold Great9P at cg
  go_wp2_with fail
  refine cg.mono ?_
  rintro e w4 ⟨gb, rfl, hsm, hb⟩
  have hb4 := hb3.trans (hb.mono hb3.size)
  have v04 := v03.later hb
  have v14 := v13.later hb
  clear cg hb hb3 v03 v13 j0 j1 j2 j3 j4 j5 j6 j7 j8 j9 g0 g1 g2 g3 g4 g5 g6 g7 g8 g9
  obtain ⟨j0, j1, j2, j3, j4, j5, j6, j7, j8, j9⟩ := v04.cells
  obtain ⟨g0, g1, g2, g3, g4, g5, g6, g7, g8, g9⟩ := v14.cells
  cases gb
  case true =>
    clear hsm
    have aw := AW w4 hb4
    go_wp2_with fail
    refine aw.mono ?_
    rintro e w5 ⟨rfl, hb5⟩
    go_wp2
    go_ret
    exact ⟨rfl, hb5⟩
  have hs' := hsm rfl
  clear hsm
  have cc := copy9_any x w.heap.size w4 (h.below hb4) hs hb4.size
  unfold Copy9P at cc
  go_wp2_with fail
  refine cc.mono ?_
  rintro e w5 ⟨z, rfl, hzm, -, hznum, hzs, hzo, hb⟩
  have hb5 := hb4.trans (hb.mono hb4.size)
  have hz4 : w.heap.size + 1 + 1 ≤ w4.heap.size := v14.lt
  have v05 := (v04.later hb).alloc (.cells #[.int .i64 z.kind, .int .u16 (z.p.i : Int), .int .u32 (z.p.k : Int), .int .u64 (z.num : Int), .int .u64 (z.vn : Int), .slice z.A z.n z.c, .int .u64 (z.x.id : Int), .slice z.x.A z.x.m z.x.c, .slice z.x.B z.x.d z.x.e, .slice z.x.C z.x.f z.x.g] 33)
  have v15 := (v14.later hb).alloc (.cells #[.int .i64 z.kind, .int .u16 (z.p.i : Int), .int .u32 (z.p.k : Int), .int .u64 (z.num : Int), .int .u64 (z.vn : Int), .slice z.A z.n z.c, .int .u64 (z.x.id : Int), .slice z.x.A z.x.m z.x.c, .slice z.x.B z.x.d z.x.e, .slice z.x.C z.x.f z.x.g] 33)
  have vz5 := CAt.mk_ w5 z
  have oz5 := hzo.later ((Below.refl _ _).alloc (Nat.le_refl _) (.cells #[.int .i64 z.kind, .int .u16 (z.p.i : Int), .int .u32 (z.p.k : Int), .int .u64 (z.num : Int), .int .u64 (z.vn : Int), .slice z.A z.n z.c, .int .u64 (z.x.id : Int), .slice z.x.A z.x.m z.x.c, .slice z.x.B z.x.d z.x.e, .slice z.x.C z.x.f z.x.g] 33))
  have HZA := hide (fun hn : 0 < z.n => (OwnB.block hzo.bs hn).imp fun g hg => hg.1)
  have hzr : ∀ g, z.A = some ⟨g, 0, none⟩ → 0 < z.n → ByteRow w5 g z.n ∧ w.heap.size + 1 < g ∧ g < w5.heap.size := fun g hg hn => by
    have ho := hzo.bs
    rw [hg] at ho
    have := OwnB.lt ho g rfl
    exact ⟨OwnB.row9 ho, by omega, this.2⟩
  have hg5 : w.heap.size + 1 + 1 ≤ w5.heap.size := Nat.le_trans hz4 hb.size
  have hb5' := hb5.alloc hb5.size (.cells #[.int .i64 z.kind, .int .u16 (z.p.i : Int), .int .u32 (z.p.k : Int), .int .u64 (z.num : Int), .int .u64 (z.vn : Int), .slice z.A z.n z.c, .int .u64 (z.x.id : Int), .slice z.x.A z.x.m z.x.c, .slice z.x.B z.x.d z.x.e, .slice z.x.C z.x.f z.x.g] 33)
  have HZM := hide hzm
  clear cc hb hb5 v04 v14 hzo hzm j0 j1 j2 j3 j4 j5 j6 j7 j8 j9 g0 g1 g2 g3 g4 g5 g6 g7 g8 g9
  obtain ⟨j0, j1, j2, j3, j4, j5, j6, j7, j8, j9⟩ := v05.cells
  obtain ⟨g0, g1, g2, g3, g4, g5, g6, g7, g8, g9⟩ := v15.cells
  obtain ⟨k0, k1, k2, k3, k4, k5, k6, k7, k8, k9⟩ := vz5.cells
  obtain ⟨s, hsame⟩ := bool_of (x.m = y.m)
  go_wp2_with fail
  generalize hw6 : w5.alloc (.cells #[.int .i64 z.kind, .int .u16 (z.p.i : Int), .int .u32 (z.p.k : Int), .int .u64 (z.num : Int), .int .u64 (z.vn : Int), .slice z.A z.n z.c, .int .u64 (z.x.id : Int), .slice z.x.A z.x.m z.x.c, .slice z.x.B z.x.d z.x.e, .slice z.x.C z.x.f z.x.g] 33) = w6 at *
  have e0 := Later.cell j0
  have e1 := Later.cell j1
  have e2 := Later.cell j2
  have e3 := Later.cell j3
  have e4 := Later.cell j4
  have e5 := Later.cell j5
  have e6 := Later.cell j6
  have e7 := Later.cell j7
  have e8 := Later.cell j8
  have e9 := Later.cell j9
  have f0 := Later.cell g0
  have f1 := Later.cell g1
  have f2 := Later.cell g2
  have f3 := Later.cell g3
  have f4 := Later.cell g4
  have f5 := Later.cell g5
  have f6 := Later.cell g6
  have f7 := Later.cell g7
  have f8 := Later.cell g8
  have f9 := Later.cell g9
  have i0 := Later.cell k0
  have i1 := Later.cell k1
  have i2 := Later.cell k2
  have i3 := Later.cell k3
  have i4 := Later.cell k4
  have i5 := Later.cell k5
  have i6 := Later.cell k6
  have i7 := Later.cell k7
  have i8 := Later.cell k8
  have i9 := Later.cell k9
  have ca := fun Z : Later w6 => calm_of (csame_any z x Z.w.heap.size w.heap.size Z.w true ((oz5.later Z.below).in_ hznum) (h.below (hb5'.trans (Z.below.mono hb5'.size))) (Nat.le_refl _) (Nat.le_trans hb5'.size Z.below.size) ⟨fun _ => HZM.out, fun _ => rfl⟩)
  have cb := fun Z : Later w6 => calm_of (csame_any x y w.heap.size w.heap.size Z.w s (h.below (hb5'.trans (Z.below.mono hb5'.size))) (h'.below (hb5'.trans (Z.below.mono hb5'.size))) (Nat.le_trans hb5'.size Z.below.size) (Nat.le_trans hb5'.size Z.below.size) hsame)
  have cr := fun Z : Later w6 => calm_of (rcsame_any x y w.heap.size w.heap.size Z.w s (h.below (hb5'.trans (Z.below.mono hb5'.size))) (h'.below (hb5'.trans (Z.below.mono hb5'.size))) (Nat.le_trans hb5'.size Z.below.size) (Nat.le_trans hb5'.size Z.below.size) hsame)
  clear hsame
  refine wp_region_calm (by kernel_rfl) (by kernel_rfl) ?_
  repeat (go_big_quiet_step (first | (go_at_call 20; first | with_reducible exact ca _ | with_reducible exact cb _) | (go_at_call 16; with_reducible exact cr _)))
  refine wpQuiet_nil ?_
  rintro _ ⟨x9, rfl⟩
  have hb9 := x9.below
  generalize x9.w = w7 at hb9 ⊢
  have hb7 := hb5'.trans (hb9.mono hb5'.size)
  have v07 := v05.later hb9
  have v17 := v15.later hb9
  have vz7 := vz5.later hb9
  have hs6 : w5.heap.size < w6.heap.size := vz5.lt
  have hzr7 : ∀ g, z.A = some ⟨g, 0, none⟩ → 0 < z.n → ByteRow w7 g z.n ∧ w.heap.size + 1 < g ∧ g < w5.heap.size := fun g hg hn => by
    obtain ⟨r1, r2, r3⟩ := hzr g hg hn
    refine ⟨(r1.below (B := w5.heap.size) ?_ r3).below hb9 (by omega), r2, r3⟩
    rw [← hw6]
    exact (Below.refl _ _).alloc (Nat.le_refl _) _
  have hs7 := hb9.size
  clear hw6 hb9 hb5' v05 v15 vz5 oz5 ca cb cr hzr e0 e1 e2 e3 e4 e5 e6 e7 e8 e9 f0 f1 f2 f3 f4 f5 f6 f7 f8 f9 i0 i1 i2 i3 i4 i5 i6 i7 i8 i9
  clear j0 j1 j2 j3 j4 j5 j6 j7 j8 j9 g0 g1 g2 g3 g4 g5 g6 g7 g8 g9 k0 k1 k2 k3 k4 k5 k6 k7 k8 k9
  obtain ⟨j0, j1, j2, j3, j4, j5, j6, j7, j8, j9⟩ := v07.cells
  obtain ⟨g0, g1, g2, g3, g4, g5, g6, g7, g8, g9⟩ := v17.cells
  obtain ⟨t, ht⟩ := bool_of (ButLen x.m)
  have ck := check9_any x w.heap.size w7 t (h.below hb7) hs.v hb7.size ht
  have cm := ckE_may ht
  rw [show x.m.d.length = x.n from h.bs.len] at cm
  generalize ckE t x.n = r at *
  clear ht
  by_cases hr : r = 0
  case neg =>
    have z1 : (r != 0) = true := by rw [bne_iff_ne]; exact hr
    have z2 : ¬ r = 0 := hr
    clear cm hr
    go_wp2_with fail
    refine ck.mono ?_
    rintro e w8 ⟨rfl, hb⟩
    have hb8 := hb7.trans (hb.mono hb7.size)
    have aw := AW w8 hb8
    clear ck hb
    go_wp2_with fail
    refine aw.mono ?_
    rintro e w9 ⟨rfl, hb9⟩
    go_wp2
    go_ret
    exact ⟨rfl, hb9⟩
  have hmx := cm.1 hr
  subst hr
  clear cm
  go_wp2_with fail
  refine ck.mono ?_
  rintro e w8 ⟨rfl, hb⟩
  have hb8 := hb7.trans (hb.mono hb7.size)
  have v08 := v07.later hb
  have v18 := v17.later hb
  have vz8 := vz7.later hb
  have hs8 := hb.size
  have hzr8 : ∀ g, z.A = some ⟨g, 0, none⟩ → 0 < z.n → ByteRow w8 g z.n ∧ w.heap.size + 1 < g ∧ g < w5.heap.size := fun g hg hn => by
    obtain ⟨r1, r2, r3⟩ := hzr7 g hg hn
    exact ⟨r1.below hb (by omega), r2, r3⟩
  clear ck hb hb7 v07 v17 vz7 hzr7 j0 j1 j2 j3 j4 j5 j6 j7 j8 j9 g0 g1 g2 g3 g4 g5 g6 g7 g8 g9
  obtain ⟨j0, j1, j2, j3, j4, j5, j6, j7, j8, j9⟩ := v08.cells
  obtain ⟨g0, g1, g2, g3, g4, g5, g6, g7, g8, g9⟩ := v18.cells
  obtain ⟨t', ht'⟩ := bool_of (ButLen y.m)
  have ck := check9_any y w.heap.size w8 t' (h'.below hb8) hs'.v hb8.size ht'
  have cm := ckE_may ht'
  rw [show y.m.d.length = y.n from h'.bs.len] at cm
  generalize ckE t' y.n = r at *
  clear ht'
  by_cases hr : r = 0
  case neg =>
    have z1 : (r != 0) = true := by rw [bne_iff_ne]; exact hr
    have z2 : ¬ r = 0 := hr
    clear cm hr
    go_wp2_with fail
    refine ck.mono ?_
    rintro e w9 ⟨rfl, hb⟩
    have hb9 := hb8.trans (hb.mono hb8.size)
    have aw := AW w9 hb9
    clear ck hb
    go_wp2_with fail
    refine aw.mono ?_
    rintro e w10 ⟨rfl, hb10⟩
    go_wp2
    go_ret
    exact ⟨rfl, hb10⟩
  have hmy := cm.1 hr
  subst hr
  clear cm
  go_wp2_with fail
  refine ck.mono ?_
  rintro e w9 ⟨rfl, hb⟩
  have hb9 := hb8.trans (hb.mono hb8.size)
  have hs9 := hb.size
  have hzr9 : ∀ g, z.A = some ⟨g, 0, none⟩ → 0 < z.n → ByteRow w9 g z.n ∧ w.heap.size + 1 < g ∧ g < w5.heap.size := fun g hg hn => by
    obtain ⟨r1, r2, r3⟩ := hzr8 g hg hn
    exact ⟨r1.below hb (by omega), r2, r3⟩
  have k1 := WrAt.new w9 w9.heap.size (Nat.le_refl _)
  have hbw : Below w9.heap.size w9 (w9.alloc (.cells #[.slice none 0 0] 38)) := (Below.refl _ _).alloc (Nat.le_refl _) _
  have sz10 : (w9.alloc (.cells #[.slice none 0 0] 38)).heap.size = w9.heap.size + 1 := by simp
  have v010 := (v08.later hb).alloc (.cells #[.slice none 0 0] 38)
  have v110 := (v18.later hb).alloc (.cells #[.slice none 0 0] 38)
  have vz10 := (vz8.later hb).alloc (.cells #[.slice none 0 0] 38)
  have hb10 := hb9.trans (hbw.mono hb9.size)
  have lx := formC_len hmx
  have ly := formC_len hmy
  have c1 := cput_any x w9.heap.size w9.heap.size w.heap.size none [] _ k1 hbw.size (by decide) (h.below hb10) hb9.size hs hmx
  rw [List.nil_append] at c1
  have hw9 := (v08.later hb).lt
  have hw9' := (v18.later hb).lt
  have hw9z := (vz8.later hb).lt
  clear ck hb v08 v18 vz8 hzr8 j0 j1 j2 j3 j4 j5 j6 j7 j8 j9 g0 g1 g2 g3 g4 g5 g6 g7 g8 g9
  obtain ⟨j0, j1, j2, j3, j4, j5, j6, j7, j8, j9⟩ := v010.cells
  obtain ⟨g0, g1, g2, g3, g4, g5, g6, g7, g8, g9⟩ := v110.cells
  go_wp2_with fail
  generalize (w9.alloc (.cells #[.slice none 0 0] 38)) = w10 at *
  refine c1.mono ?_
  rintro e w11 ⟨rfl, mg1, k3, ht1, hm1⟩
  have low11 := k1.turned ht1 hbw.size
  have hb11 := hb10.trans (low11.mono (by omega))
  have v011 := v010.turn ht1 (by omega) (by simp)
  have v111 := v110.turn ht1 (by omega) (by simp)
  have vz11 := vz10.turn ht1 (by omega) (by simp)
  have s11 := ht1.size
  have hzr11 : ∀ g, z.A = some ⟨g, 0, none⟩ → 0 < z.n → ByteRow w11 g z.n ∧ w.heap.size + 1 < g ∧ g < w5.heap.size := fun g hg hn => by
    obtain ⟨r1, r2, r3⟩ := hzr9 g hg hn
    exact ⟨(r1.below hbw (by omega)).keep (ht1.block g (by omega) (by omega) (by simp)), r2, r3⟩
  have hm1' : ∀ g, g < w9.heap.size → some g ≠ mg1 := fun g hg e => by
    rcases hm1 with e1 | ⟨g', e1, hg'⟩
    · rw [e1] at e; cases e
    · rw [e1] at e; cases e; omega
  have c2 := cput_any y w9.heap.size w9.heap.size w.heap.size mg1 (formC x.m) w11 k3 (by omega) (by omega) (h'.below hb11) hb9.size hs' hmy
  clear c1 k1 ht1 hm1 hbw v010 v110 vz10 hzr9 hb10 j0 j1 j2 j3 j4 j5 j6 j7 j8 j9 g0 g1 g2 g3 g4 g5 g6 g7 g8 g9
  obtain ⟨j0, j1, j2, j3, j4, j5, j6, j7, j8, j9⟩ := v011.cells
  obtain ⟨g0, g1, g2, g3, g4, g5, g6, g7, g8, g9⟩ := v111.cells
  go_wp2_with fail
  refine c2.mono ?_
  rintro e w12 ⟨rfl, mg2, k5, ht2, hm2⟩
  have low12 := k3.turned ht2 (by omega)
  have hb12 := hb11.trans (low12.mono (by omega))
  have LS : LoopS w w12 x y z w5.heap.size w9.heap.size mg2 (formC x.m ++ formC y.m) := ⟨v011.turn ht2 (by omega) (hm1' _ (by omega)), v111.turn ht2 (by omega) (hm1' _ (by omega)), vz11.turn ht2 (by omega) (hm1' _ (by omega)), k5, fun g hg hn => by
    obtain ⟨r1, r2, r3⟩ := hzr11 g hg hn
    exact ⟨r1.keep (ht2.block g (by omega) (by omega) (hm1' _ (by omega))), r2, r3⟩, hb12, by omega⟩
  clear c2 k3 k5 ht2 hm2 low11 low12 v011 v111 vz11 hzr11 hm1' hb11 hb12 j0 j1 j2 j3 j4 j5 j6 j7 j8 j9 g0 g1 g2 g3 g4 g5 g6 g7 g8 g9
  have hs12 : w9.heap.size < w12.heap.size := LS.wr.lt
  clear s11 sz10
  go_wp2
  go_loopw [7] (fun i wr => ∃ k : Nat, k ≤ z.n ∧ i = .int .i64 k ∧ LoopS w wr x y z w5.heap.size w9.heap.size mg2 (formC x.m ++ formC y.m)) (fun i _ => z.n - (intOf i).toNat)
  case atStart => exact ⟨0, Nat.zero_le _, rfl, LS⟩
  case round =>
    clear LS hs12 hb8 hb9
    obtain ⟨k, hk, rfl, LS⟩ := hrel
    obtain ⟨-, -, -, -, -, k5, -, -, -, -⟩ := LS.vz.cells
    by_cases hlt : k < z.n
    · obtain ⟨g, hzA⟩ := HZA.out (by omega)
      obtain ⟨r1, r2, r3⟩ := LS.row g hzA (by omega)
      obtain ⟨⟨u, hu⟩, hf⟩ := r1 k hlt
      have hst := fun v => LS.set hzA k v hlt
      have HST := hide hst
      have HL := hide (And.intro LS.hgz LS.wr.lt)
      rw [hzA] at k5
      have x1 : (0 : Int) ≤ (k : Int) := by omega
      have x2 : (k : Int) < (z.n : Int) := by omega
      have x3 : decide ((k : Int) < (z.n : Int)) = true := decide_eq_true x2
      have x4 := hzs.n
      clear hst LS r1
      go_wp2_with fail
      go_region
      all_goals
        go_wp2
        go_roundw
        case rel => exact ⟨k + 1, by omega, by go_num, LoopS.drew (HST.out _)⟩
        case measure => simp [intOf]; omega
    · have x3 : decide ((k : Int) < (z.n : Int)) = false := decide_eq_false (by omega)
      have hlen : (formC x.m ++ formC y.m).length ≤ 200200 := by rw [List.length_append]; omega
      generalize hF : formC x.m ++ formC y.m = F at *
      have HF := hide hF
      clear hF
      have d1 := wdone_any w9.heap.size w9.heap.size mg2 F wr LS.wr (by omega)
      have hbr := LS.below
      go_wp2_with fail
      refine d1.mono ?_
      rintro e w13 ⟨A1, e1, rfl, o1, b1⟩
      have hb13 := hbr.trans (b1.mono hbr.size)
      have v013 := LS.v0.later b1
      have v113 := LS.v1.later b1
      have ob := OwnB.bs o1
      clear d1 b1 LS hbr k5 o1 hlt hk
      go_wp2_with fail
      refine (read_any A1 _ e1 F w13.heap.size w13 ob (Nat.le_refl _) (by omega)).mono ?_
      rintro e w14 ⟨b, rfl, hbb, hr14, hb⟩
      have hb14 := hb13.trans (hb.mono hb13.size)
      have v014 := v013.later hb
      have v114 := v113.later hb
      have hs14 := hb.size
      have hs13 := v113.lt
      have hblt := hr14.lt
      have cg1 := cget_tot b ⟨F, 0⟩ w14 hr14 (by show F.length ≤ _; omega)
      rw [← HF.out, cmdS_front hmx] at cg1
      unfold CGetT at cg1
      clear hb hb13 v013 v113 ob hr14
      go_wp2_with fail
      refine cg1.mono ?_
      rintro e w15 ⟨y1, rfl, hm1, ho1, hs1, hn1, hr15, ht15⟩
      (try dsimp only at hm1)
      (try dsimp only at hr15)
      have hb15 := hb14.trans (ht15.below (Nat.le_trans hb14.size (Nat.le_refl _)) (by omega) (fun g hg => by cases hg))
      have v015 := v014.turn ht15 (by omega) (by simp)
      have v115 := v114.turn ht15 (by omega) (by simp)
      have hr15' : RdAt w15 b (formC y.m ++ []) 0 := by rw [List.append_nil]; exact hr15
      have cg2 := cget_tot b ⟨formC y.m ++ [], 0⟩ w15 hr15' (by show (formC y.m ++ []).length ≤ _; rw [List.append_nil]; omega)
      rw [cmdS_front hmy] at cg2
      unfold CGetT at cg2
      have hs15 := ht15.size
      have HM1 := hide hm1
      clear cg1 ht15 hb14 v014 v114 hr15 hr15' hm1
      go_wp2_with fail
      refine cg2.mono ?_
      rintro e w16 ⟨z1, rfl, hm2, ho2, hs2, hn2, hr16, ht16⟩
      (try dsimp only at hm2)
      (try dsimp only at hr16)
      have HM2 := hide hm2
      have hb16 := hb15.trans (ht16.below hb15.size (by omega) (fun g hg => by cases hg))
      have v016 := v015.turn ht16 (by omega) (by simp)
      have v116 := v115.turn ht16 (by omega) (by simp)
      have oy := ho1.turnLow ht16 hblt
      have hs16 := ht16.size
      have hlz : Below w16.heap.size w16 ((w16.alloc (.cells #[.int .i64 y1.kind, .int .u16 (y1.p.i : Int), .int .u32 (y1.p.k : Int), .int .u64 (y1.num : Int), .int .u64 (y1.vn : Int), .slice y1.A y1.n y1.c, .int .u64 (y1.x.id : Int), .slice y1.x.A y1.x.m y1.x.c, .slice y1.x.B y1.x.d y1.x.e, .slice y1.x.C y1.x.f y1.x.g] 33)).alloc (.cells #[.int .i64 z1.kind, .int .u16 (z1.p.i : Int), .int .u32 (z1.p.k : Int), .int .u64 (z1.num : Int), .int .u64 (z1.vn : Int), .slice z1.A z1.n z1.c, .int .u64 (z1.x.id : Int), .slice z1.x.A z1.x.m z1.x.c, .slice z1.x.B z1.x.d z1.x.e, .slice z1.x.C z1.x.f z1.x.g] 33)) := ((Below.refl _ _).alloc (Nat.le_refl _) _).alloc (by simp) _
      have v018 := v016.later hlz
      have v118 := v116.later hlz
      have oy8 := oy.later hlz
      have oz8 := ho2.later hlz
      have vy8 := (CAt.mk_ w16 y1).alloc (.cells #[.int .i64 z1.kind, .int .u16 (z1.p.i : Int), .int .u32 (z1.p.k : Int), .int .u64 (z1.num : Int), .int .u64 (z1.vn : Int), .slice z1.A z1.n z1.c, .int .u64 (z1.x.id : Int), .slice z1.x.A z1.x.m z1.x.c, .slice z1.x.B z1.x.d z1.x.e, .slice z1.x.C z1.x.f z1.x.g] 33)
      have vz8 := CAt.mk_ (w16.alloc (.cells #[.int .i64 y1.kind, .int .u16 (y1.p.i : Int), .int .u32 (y1.p.k : Int), .int .u64 (y1.num : Int), .int .u64 (y1.vn : Int), .slice y1.A y1.n y1.c, .int .u64 (y1.x.id : Int), .slice y1.x.A y1.x.m y1.x.c, .slice y1.x.B y1.x.d y1.x.e, .slice y1.x.C y1.x.f y1.x.g] 33)) z1
      simp only [World.size_alloc] at vz8
      have hr18 := hr16.later hlz
      have hb18 := hb16.trans (hlz.mono hb16.size)
      clear cg2 ht16 hb15 v015 v115 ho1 ho2 oy hb16 hlz hr16 hm2 v016 v116
      obtain ⟨j0, j1, j2, j3, j4, j5, j6, j7, j8, j9⟩ := v018.cells
      obtain ⟨k0, k1, k2, k3, k4, k5, k6, k7, k8, k9⟩ := vy8.cells
      go_wp2_with fail
      generalize ((w16.alloc (.cells #[.int .i64 y1.kind, .int .u16 (y1.p.i : Int), .int .u32 (y1.p.k : Int), .int .u64 (y1.num : Int), .int .u64 (y1.vn : Int), .slice y1.A y1.n y1.c, .int .u64 (y1.x.id : Int), .slice y1.x.A y1.x.m y1.x.c, .slice y1.x.B y1.x.d y1.x.e, .slice y1.x.C y1.x.f y1.x.g] 33)).alloc (.cells #[.int .i64 z1.kind, .int .u16 (z1.p.i : Int), .int .u32 (z1.p.k : Int), .int .u64 (z1.num : Int), .int .u64 (z1.vn : Int), .slice z1.A z1.n z1.c, .int .u64 (z1.x.id : Int), .slice z1.x.A z1.x.m z1.x.c, .slice z1.x.B z1.x.d z1.x.e, .slice z1.x.C z1.x.f z1.x.g] 33)) = w18 at *
      have c1 := rcsame_any y1 x w18.heap.size w.heap.size w18 true (oy8.in_ hn1) (h.below hb18) (Nat.le_refl _) hb18.size ⟨fun _ => HM1.out, fun _ => rfl⟩
      refine c1.mono ?_
      rintro e w19 ⟨rfl, hb⟩
      have hb19 := hb18.trans (hb.mono hb18.size)
      have v119 := v118.later hb
      have oz9 := oz8.later hb
      have vz9 := vz8.later hb
      have hr19 := hr18.later hb
      clear c1 hb hb18 v018 v118 oy8 oz8 vy8 vz8 hr18 j0 j1 j2 j3 j4 j5 j6 j7 j8 j9 k0 k1 k2 k3 k4 k5 k6 k7 k8 k9
      obtain ⟨j0, j1, j2, j3, j4, j5, j6, j7, j8, j9⟩ := v119.cells
      obtain ⟨k0, k1, k2, k3, k4, k5, k6, k7, k8, k9⟩ := vz9.cells
      have c2 := rcsame_any z1 y w19.heap.size w.heap.size w19 true (oz9.in_ hn2) (h'.below hb19) (Nat.le_refl _) hb19.size ⟨fun _ => HM2.out, fun _ => rfl⟩
      go_wp2_with fail
      refine c2.mono ?_
      rintro e w20 ⟨rfl, hb⟩
      have hb20 := hb19.trans (hb.mono hb19.size)
      have hr20 := hr19.later hb
      have ce := rdend_any b [] 0 w20 hr20
      rw [show ((endF [] 0 : Nat) : Int) = 0 from rfl] at ce
      clear c2 hb hb19 v119 oz9 vz9 hr19 j0 j1 j2 j3 j4 j5 j6 j7 j8 j9 k0 k1 k2 k3 k4 k5 k6 k7 k8 k9
      go_wp2_with fail
      refine ce.mono ?_
      rintro e w21 ⟨rfl, rfl⟩
      have aw := AW w20 hb20
      clear ce hr20
      go_wp2_with fail
      refine aw.mono ?_
      rintro e w22 ⟨rfl, hb22⟩
      go_wp2
      go_ret
      exact ⟨rfl, hb22⟩

/-! ### THE ROW's STEP -/
set_option maxRecDepth 100000 in
theorem lifted (os : Os) (started : os.Started) (H : Type) (enc : TypeId × Value → H) :
    ReturnsInHanded {} Try.checked os 4 .any (Rows.cmdBackSpec.pre6 enc Try.prog Try.f4 Rows.cmdBackRow.domain false) (Rows.cmdBackSpec.post enc Try.prog Try.f4 false true false false) := by
  refine returnsInHanded_of_change (C := Try.checked) own started (by kernel_rfl) Try.func4
    (ChangeSpec.witness6 (enc := enc) (C := Try.checked) false ⟨#[], #[.agg #[.int .i64 0, .int .u16 0, .int .u32 0, .int .u64 0, .int .u64 0, .slice none 0 0, .int .u64 0, .slice none 0 0, .slice none 0 0, .slice none 0 0], .agg #[.int .i64 0, .int .u16 0, .int .u32 0, .int .u64 0, .int .u64 0, .slice none 0 0, .int .u64 0, .slice none 0 0, .slice none 0 0, .slice none 0 0]], []⟩ 8 (by kernel_rfl) (by kernel_rfl) (by kernel_rfl) (by kernel_rfl)) ?_
  intro W base args ds gs before hval0 hW hcnd _
  have hval : ∀ (j : Nat) t v, Try.f4.params[j]? = some t → args[j]? = some v → Value.okWide Try.prog W .any base t v := hval0
  have hW' := hW
  obtain ⟨p, q, hA0, hV, rfl, hfz, hnd⟩ := hW
  have hA : DataW.TrodAll enc Try.prog W 0 (fun _ => true) true Try.f4.params.toList args.toList ds p := hA0
  rw [Try.params4] at hA hval
  obtain ⟨v0, vs0, d0, ds0, p0, q0, hargs, rfl, rfl, h0, r0⟩ := trodAll_cons hA
  obtain ⟨v1, vs1, d1, ds1, p1, q1, rfl, rfl, rfl, h1, r1⟩ := trodAll_cons r0
  obtain ⟨rfl, rfl, rfl⟩ := trodAll_nil r1
  obtain rfl : args = #[v0, v1] := by cases args; simp_all
  obtain ⟨rfl, rfl⟩ := trodVars_none hV
  have k0 := h0
  have lt0 : ∀ x ∈ p0, x.block < W.heap.size := by obtain ⟨m, hm⟩ := k0; exact DataW.trod_lt m _ _ _ hm
  obtain ⟨x0, rfl, hx0⟩ := open_cmd (hval 0 33 v0 rfl rfl) h0
  have k1 := h1
  have lt1 : ∀ x ∈ p1, x.block < W.heap.size := by obtain ⟨m, hm⟩ := k1; exact DataW.trod_lt m _ _ _ hm
  obtain ⟨x1, rfl, hx1⟩ := open_cmd (hval 1 33 v1 rfl rfl) h1
  clear hA0 hval0
  refine (walk x0 x1 W hx0 hx1).mono fun e W' ⟨he, bel⟩ => ?_
  subst he
  exact ⟨_, rfl, _, _, _, [], _, [], hW', trodAll_mk1 (shut_bool Try.underlying4 _), (trodAll_cons_mk (Below.trod laidOut (by kernel_rfl) (of_decide_eq_true (by kernel_rfl)) k0 bel lt0) (trodAll_cons_mk (Below.trod laidOut (by kernel_rfl) (of_decide_eq_true (by kernel_rfl)) k1 bel lt1) trodAll_mk0)), rfl, bel.frame _, fun h => by cases h⟩

theorem over : Rows.cmdBackRow.holds Try.pinned (OpenSpec.ofChange Rows.cmdBackSpec) :=
  OpenClaim.holds_of_wide 4 Try.f4 rfl rfl rfl rfl rfl rfl rfl ⟨rfl, rfl, rfl, rfl, rfl⟩ rfl rfl rfl rfl rfl (by kernel_rfl) Try.func4 (by kernel_rfl)
    (of_decide_eq_true (by kernel_rfl)) (by unfold Func.isWrapper; first | (rw [if_pos (by decide +kernel)]; kernel_rfl) | (rw [if_neg (by decide +kernel)]; exact ⟨rfl, rfl⟩))
    (fun os started H enc _ => lifted os started H enc)

theorem proved : Rows.CmdBackSaid := over
#print axioms proved
end Go.Proofs.Ytdmihbicpjmgjaa.cmdBack
