import Derived.Test.YtjmkecaljkcoiaaGreatDoorQRdV
import Derived.Test.YtjmkecaljkcoiaaGreatDoorQCmd6
namespace Go.Proofs.YtjmkecaljkcoiaaGreatDoor
open Go.RowKit Go.Maps
set_option linter.unusedVariables false
set_option linter.unusedSimpArgs false
theorem CxOwn.turnLow {w w' : World} {base b : Nat} {y : Cx} (h : CxOwn w base y) (ht : Turn w w' b none) (hb : b < base) : CxOwn w' base y :=
  ⟨OwnB.turn h.bs ht (fun g hg => ⟨by have := (OwnB.lt h.bs g hg).1; omega, by simp⟩), h.v.turnLow ht hb⟩
theorem rdAt_putV {w : World} {b g t : Nat} {l : List UInt8} (h : RdAt w b l t) (hb : b < g) (x : Vw) : RdAt (putV w g x) b l t := (((h.other (p := ⟨g, 6, none⟩) hb _).other (p := ⟨g, 7, none⟩) hb _).other (p := ⟨g, 8, none⟩) hb _).other (p := ⟨g, 9, none⟩) hb _
theorem rdAt_put10 {w : World} {b g t : Nat} {l : List UInt8} (h : RdAt w b l t) (hb : b < g) (y : Cx) : RdAt (put10 w g y) b l t :=
  rdAt_putV ((((((h.other (p := ⟨g, 0, none⟩) hb _).other (p := ⟨g, 1, none⟩) hb _).other (p := ⟨g, 2, none⟩) hb _).other (p := ⟨g, 3, none⟩) hb _).other (p := ⟨g, 4, none⟩) hb _).other (p := ⟨g, 5, none⟩) hb _) hb _
theorem turn_putV {w w' : World} {b g : Nat} (h : Turn w w' b none) (hg : w.heap.size ≤ g) (x : Vw) : Turn w (putV w' g x) b none := (((h.setNew (p := ⟨g, 6, none⟩) hg _).setNew (p := ⟨g, 7, none⟩) hg _).setNew (p := ⟨g, 8, none⟩) hg _).setNew (p := ⟨g, 9, none⟩) hg _
theorem turn_put10 {w w' : World} {b g : Nat} (h : Turn w w' b none) (hg : w.heap.size ≤ g) (y : Cx) : Turn w (put10 w' g y) b none :=
  turn_putV ((((((h.setNew (p := ⟨g, 0, none⟩) hg _).setNew (p := ⟨g, 1, none⟩) hg _).setNew (p := ⟨g, 2, none⟩) hg _).setNew (p := ⟨g, 3, none⟩) hg _).setNew (p := ⟨g, 4, none⟩) hg _).setNew (p := ⟨g, 5, none⟩) hg _) hg _
structure GetC (w W : World) (b : Nat) (s : RS) (g : Nat) (y : Cx) : Prop where
  v : CAt W g y
  z : CAt W w.heap.size (zX 0 zeroX)
  own : CxOwn W (g + 1) y
  rd : RdAt W b s.l s.t
  turn : Turn w W b none
  lo : w.heap.size + 1 ≤ g
section
variable {w W W' w2 : World} {b g : Nat} {s s' : RS} {y : Cx}
theorem GetC.read (h : GetC w W b s g y) (hb : b < w.heap.size) (ht : Turn W W' b none) (hr : RdAt W' b s'.l s'.t) : GetC w W' b s' g y :=
  ⟨h.v.turn ht (by have := h.lo; omega) (by simp), h.z.turn ht (by omega) (by simp), h.own.turnLow ht (by have := h.lo; omega), hr, h.turn.trans ht (Mov.refl _ _), h.lo⟩
theorem GetC.start (hb : b < w.heap.size) (ht : Turn (w.alloc (.cells #[.int .i64 0, .int .u16 0, .int .u32 0, .int .u64 0, .int .u64 0, .slice none 0 0, .int .u64 0, .slice none 0 0, .slice none 0 0, .slice none 0 0] 48)) w2 b none) (hr : RdAt w2 b s.l s.t) (k : Int) : GetC w (w2.alloc (.cells #[.int .i64 k, .int .u16 0, .int .u32 0, .int .u64 0, .int .u64 0, .slice none 0 0, .int .u64 0, .slice none 0 0, .slice none 0 0, .slice none 0 0] 48)) b s w2.heap.size (zX k zeroX) := by
  have hs := ht.size
  simp only [World.size_alloc] at hs
  have z1 : CAt (w.alloc (.cells #[.int .i64 0, .int .u16 0, .int .u32 0, .int .u64 0, .int .u64 0, .slice none 0 0, .int .u64 0, .slice none 0 0, .slice none 0 0, .slice none 0 0] 48)) w.heap.size (zX 0 zeroX) := CAt.mk_ w (zX 0 zeroX)
  have v1 : CAt (w2.alloc (.cells #[.int .i64 k, .int .u16 0, .int .u32 0, .int .u64 0, .int .u64 0, .slice none 0 0, .int .u64 0, .slice none 0 0, .slice none 0 0, .slice none 0 0] 48)) w2.heap.size (zX k zeroX) := CAt.mk_ w2 (zX k zeroX)
  exact ⟨v1, (z1.turn ht (by omega) (by simp)).alloc _, ⟨OwnB.nil_ _ _, zeroX_own _ _⟩, hr.alloc _, (Turn.ahead ((Below.refl _ _).alloc (Nat.le_refl _) _) ht).alloc _, by omega⟩
theorem GetC.setP (h : GetC w W b s g y) (hb : b < w.heap.size) (p : Pr) : GetC w ((W.setCell ⟨g, 1, none⟩ (.int .u16 p.i)).setCell ⟨g, 2, none⟩ (.int .u32 p.k)) b s g ⟨y.kind, p, y.num, y.vn, y.A, y.n, y.c, y.l, y.x⟩ := by
  have hl := h.lo
  exact ⟨heap_setCell_same _ g 2 _ _ _ (heap_setCell_same W g 1 _ _ _ h.v), (h.z.far _ (by show w.heap.size ≠ g; omega)).far _ (by show w.heap.size ≠ g; omega), ⟨((h.own.setFar (a := ⟨g, 1, none⟩) _ (by show g < g + 1; omega)).setFar (a := ⟨g, 2, none⟩) _ (by show g < g + 1; omega)).bs, ((h.own.setFar (a := ⟨g, 1, none⟩) _ (by show g < g + 1; omega)).setFar (a := ⟨g, 2, none⟩) _ (by show g < g + 1; omega)).v⟩, (h.rd.other (p := ⟨g, 1, none⟩) (by show b < g; omega) _).other (p := ⟨g, 2, none⟩) (by show b < g; omega) _, (h.turn.setNew (p := ⟨g, 1, none⟩) (by show w.heap.size ≤ g; omega) _).setNew (p := ⟨g, 2, none⟩) (by show w.heap.size ≤ g; omega) _, hl⟩
theorem GetC.setN (h : GetC w W b s g y) (hb : b < w.heap.size) (n : Nat) : GetC w (W.setCell ⟨g, 3, none⟩ (.int .u64 n)) b s g ⟨y.kind, y.p, n, y.vn, y.A, y.n, y.c, y.l, y.x⟩ := by
  have hl := h.lo
  exact ⟨heap_setCell_same W g 3 _ _ _ h.v, h.z.far _ (by show w.heap.size ≠ g; omega), ⟨(h.own.setFar (a := ⟨g, 3, none⟩) _ (by show g < g + 1; omega)).bs, (h.own.setFar (a := ⟨g, 3, none⟩) _ (by show g < g + 1; omega)).v⟩, h.rd.other (p := ⟨g, 3, none⟩) (by show b < g; omega) _, h.turn.setNew (p := ⟨g, 3, none⟩) (by show w.heap.size ≤ g; omega) _, hl⟩
theorem GetC.setM (h : GetC w W b s g y) (hb : b < w.heap.size) (n : Nat) : GetC w (W.setCell ⟨g, 4, none⟩ (.int .u64 n)) b s g ⟨y.kind, y.p, y.num, n, y.A, y.n, y.c, y.l, y.x⟩ := by
  have hl := h.lo
  exact ⟨heap_setCell_same W g 4 _ _ _ h.v, h.z.far _ (by show w.heap.size ≠ g; omega), ⟨(h.own.setFar (a := ⟨g, 4, none⟩) _ (by show g < g + 1; omega)).bs, (h.own.setFar (a := ⟨g, 4, none⟩) _ (by show g < g + 1; omega)).v⟩, h.rd.other (p := ⟨g, 4, none⟩) (by show b < g; omega) _, h.turn.setNew (p := ⟨g, 4, none⟩) (by show w.heap.size ≤ g; omega) _, hl⟩
theorem GetC.setD (h : GetC w W b s g y) (hb : b < w.heap.size) {A : Option Addr} {n c : Nat} {l : List UInt8} (ho : OwnB W (g + 1) (.slice A n c) n l) : GetC w (W.setCell ⟨g, 5, none⟩ (.slice A n c)) b s g ⟨y.kind, y.p, y.num, y.vn, A, n, c, l, y.x⟩ := by
  have hl := h.lo
  exact ⟨h.v.setD A n c l, h.z.far _ (by show w.heap.size ≠ g; omega), ⟨OwnB.setOld9 ho (p := ⟨g, 5, none⟩) (by show g < g + 1; omega) _, (h.own.setFar (a := ⟨g, 5, none⟩) _ (by show g < g + 1; omega)).v⟩, h.rd.other (p := ⟨g, 5, none⟩) (by show b < g; omega) _, h.turn.setNew (p := ⟨g, 5, none⟩) (by show w.heap.size ≤ g; omega) _, hl⟩
theorem GetC.setV (h : GetC w W b s g y) (hb : b < w.heap.size) {x : Vw} (ho : VwOwn W (g + 1) x) : GetC w (putV W g x) b s g ⟨y.kind, y.p, y.num, y.vn, y.A, y.n, y.c, y.l, x⟩ := by
  have hl := h.lo
  have o : CxOwn W (g + 1) ⟨y.kind, y.p, y.num, y.vn, y.A, y.n, y.c, y.l, x⟩ := ⟨h.own.bs, ho⟩
  exact ⟨h.v.setV x, h.z.farV x (by omega), o.farV x (by omega), rdAt_putV h.rd (by omega) x, turn_putV h.turn (by omega) x, hl⟩
end
def CGetT (w : World) (b : Nat) (r : Cm × RS) (e : Ending) (w' : World) : Prop := ∃ y : Cx, e = .returned (.agg #[.int .i64 y.kind, .int .u16 y.p.i, .int .u32 y.p.k, .int .u64 y.num, .int .u64 y.vn, .slice y.A y.n y.c, .int .u64 y.x.id, .slice y.x.A y.x.m y.x.c, .slice y.x.B y.x.d y.x.e, .slice y.x.C y.x.f y.x.g]) ∧ y.m = r.1 ∧ CxOwn w' w.heap.size y ∧ CSmall y ∧ CNums y ∧ RdAt w' b r.2.l r.2.t ∧ Turn w w' b none
set_option maxRecDepth 100000 in
set_option maxHeartbeats 8000000 in
theorem cget_tot (b : Nat) (s : RS) (w : World) (h : RdAt w b s.l s.t) (hl : s.l.length ≤ 10000000) :
    Calls Tryz.prog 107 #[.pointer (some ⟨b, 0, none⟩)] w (CGetT w b (cmdS s)) := by
  have hb := h.lt
  have c1 : Calls Tryz.prog 103 #[.pointer (some ⟨b, 0, none⟩), .int .u64 3] _ _ := rdnum_tot b 3 s _ (h.alloc (.cells #[.int .i64 0, .int .u16 0, .int .u32 0, .int .u64 0, .int .u64 0, .slice none 0 0, .int .u64 0, .slice none 0 0, .slice none 0 0, .slice none 0 0] 48)) (by decide)
  have hK := numS_le 3 s
  have hB : bareS s = if (numS 3 s).1 = 2 then partsC (numS 3 s).2 else if (numS 3 s).1 = 3 then (zC 3 (viewS (numS 3 s).2).1, (viewS (numS 3 s).2).2) else (zC ((numS 3 s).1 : Nat) noV, (numS 3 s).2) := rfl
  have hll : (numS 3 s).2.l.length ≤ 10000000 := Nat.le_trans (numS_len 3 s) hl
  have hY := @cmdS_yes s
  have hF := @cmdS_form s
  have hX := @cmdS_stop s
  generalize cmdS s = RES at *
  generalize bareS s = PT at *
  generalize numS 3 s = r1 at *
  obtain ⟨K, s1⟩ := r1
  (try dsimp only at c1)
  (try dsimp only at hK)
  (try dsimp only at hB)
  (try dsimp only at hll)
  have HB := hide hB
  have HRES := hide (And.intro hY (And.intro hF hX))
  clear hB hY hF hX h hl
  go_enter Tryz.func107, Tryz.ntmps107
  go_wp2_with fail
  refine c1.mono ?_
  rintro e w2 ⟨rfl, h2, ht2⟩
  clear c1
  have hz2 : w.heap.size + 1 ≤ w2.heap.size := by have := ht2.size; simpa using this
  have G := fun k => GetC.start (w := w) hb ht2 h2 k
  by_cases hk2 : K = 2
  · subst hk2
    have G1 := G 2
    have HB2 : Hid (PT = partsC s1) := hide (by rw [HB.out, if_pos rfl])
    clear G HB
    have hp := HB2.out
    unfold partsC at hp
    have hlA := Nat.le_trans (pidQ_len s1) hll
    have cp : Calls Tryz.prog 104 #[.pointer (some ⟨b, 0, none⟩)] _ _ := rdpid_tot b s1 _ G1.rd
    generalize pidQ s1 = rA at *
    obtain ⟨P, sA⟩ := rA
    (try dsimp only at hp)
    (try dsimp only at hlA)
    (try dsimp only at cp)
    have c2 : ∀ W, RdAt W b sA.l sA.t → Calls Tryz.prog 103 #[.pointer (some ⟨b, 0, none⟩), .int .u64 4611686018427387904] W (ReadsP W b (.int .u64 ((numS 4611686018427387904 sA).1 : Nat)) (numS 4611686018427387904 sA).2.l (numS 4611686018427387904 sA).2.t) := fun W hr => rdnum_tot b 4611686018427387904 sA W hr (by decide)
    have hn1 := numS_le 4611686018427387904 sA
    have hlB := Nat.le_trans (numS_len 4611686018427387904 sA) hlA
    generalize numS 4611686018427387904 sA = rB at *
    obtain ⟨n1, sB⟩ := rB
    (try dsimp only at hp)
    (try dsimp only at hlB)
    (try dsimp only at hn1)
    (try dsimp only at c2)
    have c3 : ∀ W, RdAt W b sB.l sB.t → Calls Tryz.prog 103 #[.pointer (some ⟨b, 0, none⟩), .int .u64 4611686018427387904] W (ReadsP W b (.int .u64 ((numS 4611686018427387904 sB).1 : Nat)) (numS 4611686018427387904 sB).2.l (numS 4611686018427387904 sB).2.t) := fun W hr => rdnum_tot b 4611686018427387904 sB W hr (by decide)
    have hn2 := numS_le 4611686018427387904 sB
    have hlC := Nat.le_trans (numS_len 4611686018427387904 sB) hlB
    generalize numS 4611686018427387904 sB = rC at *
    obtain ⟨n2, sC⟩ := rC
    (try dsimp only at hp)
    (try dsimp only at hlC)
    (try dsimp only at hn2)
    (try dsimp only at c3)
    have c4 : ∀ W, RdAt W b sC.l sC.t → Calls Tryz.prog 109 #[.pointer (some ⟨b, 0, none⟩), .int .i64 200] W (BytT W b (bytS 200 sC)) := fun W hr => rdbytes_tot b 200 sC W hr (by decide) (by omega)
    have hd := bytS_le 200 sC
    unfold BytT at c4
    generalize bytS 200 sC = rD at *
    obtain ⟨d, sD⟩ := rD
    (try dsimp only at hp)
    (try dsimp only at hd)
    (try dsimp only at c4)
    have HP2 := hide hp
    clear hp HB2 hlA hlB hlC
    go_wp2_with fail
    generalize w2.alloc (.cells #[.int .i64 2, .int .u16 0, .int .u32 0, .int .u64 0, .int .u64 0, .slice none 0 0, .int .u64 0, .slice none 0 0, .slice none 0 0, .slice none 0 0] 48) = u3 at *
    refine cp.mono ?_
    rintro e u4 ⟨rfl, h4, ht4⟩
    have G4 := G1.read hb ht4 h4
    have hgl1 := G4.v.lt
    have hgo := G4.lo
    have k0 : u4.cell? ⟨w2.heap.size, 0, none⟩ = some (.int .i64 2) := G4.v.cells.1
    have k1 : u4.cell? ⟨w2.heap.size, 1, none⟩ = some (.int .u16 0) := G4.v.cells.2.1
    have k2 : u4.cell? ⟨w2.heap.size, 2, none⟩ = some (.int .u32 0) := G4.v.cells.2.2.1
    have k3 : u4.cell? ⟨w2.heap.size, 3, none⟩ = some (.int .u64 0) := G4.v.cells.2.2.2.1
    have k4 : u4.cell? ⟨w2.heap.size, 4, none⟩ = some (.int .u64 0) := G4.v.cells.2.2.2.2.1
    have k5 : u4.cell? ⟨w2.heap.size, 5, none⟩ = some (.slice none 0 0) := G4.v.cells.2.2.2.2.2.1
    have k6 : u4.cell? ⟨w2.heap.size, 6, none⟩ = some (.int .u64 0) := G4.v.cells.2.2.2.2.2.2.1
    have k7 : u4.cell? ⟨w2.heap.size, 7, none⟩ = some (.slice none 0 0) := G4.v.cells.2.2.2.2.2.2.2.1
    have k8 : u4.cell? ⟨w2.heap.size, 8, none⟩ = some (.slice none 0 0) := G4.v.cells.2.2.2.2.2.2.2.2.1
    have k9 : u4.cell? ⟨w2.heap.size, 9, none⟩ = some (.slice none 0 0) := G4.v.cells.2.2.2.2.2.2.2.2.2
    have f1 := G4.v.fz 1
    have f2 := G4.v.fz 2
    have G5 := G4.setP hb P
    dsimp only [zX] at G5
    have c2' := c2 _ G5.rd
    clear cp c2 G1 G4 h4 ht4
    go_wp2_with fail
    generalize (u4.setCell ⟨w2.heap.size, 1, none⟩ (.int .u16 P.i)).setCell ⟨w2.heap.size, 2, none⟩ (.int .u32 P.k) = u5 at *
    refine c2'.mono ?_
    clear c2' f1 f2 k0 k1 k2 k3 k4 k5 k6 k7 k8 k9 hgl1 hgo
    rintro e u6 ⟨rfl, h4, ht4⟩
    have G6 := G5.read hb ht4 h4
    have hgl1 := G6.v.lt
    have hgo := G6.lo
    have k0 : u6.cell? ⟨w2.heap.size, 0, none⟩ = some (.int .i64 2) := G6.v.cells.1
    have k1 : u6.cell? ⟨w2.heap.size, 1, none⟩ = some (.int .u16 P.i) := G6.v.cells.2.1
    have k2 : u6.cell? ⟨w2.heap.size, 2, none⟩ = some (.int .u32 P.k) := G6.v.cells.2.2.1
    have k3 : u6.cell? ⟨w2.heap.size, 3, none⟩ = some (.int .u64 0) := G6.v.cells.2.2.2.1
    have k4 : u6.cell? ⟨w2.heap.size, 4, none⟩ = some (.int .u64 0) := G6.v.cells.2.2.2.2.1
    have k5 : u6.cell? ⟨w2.heap.size, 5, none⟩ = some (.slice none 0 0) := G6.v.cells.2.2.2.2.2.1
    have k6 : u6.cell? ⟨w2.heap.size, 6, none⟩ = some (.int .u64 0) := G6.v.cells.2.2.2.2.2.2.1
    have k7 : u6.cell? ⟨w2.heap.size, 7, none⟩ = some (.slice none 0 0) := G6.v.cells.2.2.2.2.2.2.2.1
    have k8 : u6.cell? ⟨w2.heap.size, 8, none⟩ = some (.slice none 0 0) := G6.v.cells.2.2.2.2.2.2.2.2.1
    have k9 : u6.cell? ⟨w2.heap.size, 9, none⟩ = some (.slice none 0 0) := G6.v.cells.2.2.2.2.2.2.2.2.2
    have f3 := G6.v.fz 3
    have G7 := G6.setN hb n1
    dsimp only at G7
    have c3' := c3 _ G7.rd
    clear c3 G5 G6 h4 ht4
    go_wp2_with fail
    generalize u6.setCell ⟨w2.heap.size, 3, none⟩ (.int .u64 n1) = u7 at *
    refine c3'.mono ?_
    clear c3' f3 k0 k1 k2 k3 k4 k5 k6 k7 k8 k9 hgl1 hgo
    rintro e u8 ⟨rfl, h4, ht4⟩
    have G8 := G7.read hb ht4 h4
    have hgl1 := G8.v.lt
    have hgo := G8.lo
    have k0 : u8.cell? ⟨w2.heap.size, 0, none⟩ = some (.int .i64 2) := G8.v.cells.1
    have k1 : u8.cell? ⟨w2.heap.size, 1, none⟩ = some (.int .u16 P.i) := G8.v.cells.2.1
    have k2 : u8.cell? ⟨w2.heap.size, 2, none⟩ = some (.int .u32 P.k) := G8.v.cells.2.2.1
    have k3 : u8.cell? ⟨w2.heap.size, 3, none⟩ = some (.int .u64 n1) := G8.v.cells.2.2.2.1
    have k4 : u8.cell? ⟨w2.heap.size, 4, none⟩ = some (.int .u64 0) := G8.v.cells.2.2.2.2.1
    have k5 : u8.cell? ⟨w2.heap.size, 5, none⟩ = some (.slice none 0 0) := G8.v.cells.2.2.2.2.2.1
    have k6 : u8.cell? ⟨w2.heap.size, 6, none⟩ = some (.int .u64 0) := G8.v.cells.2.2.2.2.2.2.1
    have k7 : u8.cell? ⟨w2.heap.size, 7, none⟩ = some (.slice none 0 0) := G8.v.cells.2.2.2.2.2.2.2.1
    have k8 : u8.cell? ⟨w2.heap.size, 8, none⟩ = some (.slice none 0 0) := G8.v.cells.2.2.2.2.2.2.2.2.1
    have k9 : u8.cell? ⟨w2.heap.size, 9, none⟩ = some (.slice none 0 0) := G8.v.cells.2.2.2.2.2.2.2.2.2
    have f4 := G8.v.fz 4
    have G9 := G8.setM hb n2
    dsimp only at G9
    have c4' := c4 _ G9.rd
    clear c4 G7 G8 h4 ht4
    go_wp2_with fail
    generalize u8.setCell ⟨w2.heap.size, 4, none⟩ (.int .u64 n2) = u9 at *
    refine c4'.mono ?_
    clear c4' f4 k0 k1 k2 k3 k4 k5 k6 k7 k8 k9 hgl1 hgo
    rintro e u10 ⟨A, c, rfl, ho, h4, ht4⟩
    have hlt9 := G9.v.lt
    have G10 := G9.read hb ht4 h4
    have hgl1 := G10.v.lt
    have hgo := G10.lo
    have k0 : u10.cell? ⟨w2.heap.size, 0, none⟩ = some (.int .i64 2) := G10.v.cells.1
    have k1 : u10.cell? ⟨w2.heap.size, 1, none⟩ = some (.int .u16 P.i) := G10.v.cells.2.1
    have k2 : u10.cell? ⟨w2.heap.size, 2, none⟩ = some (.int .u32 P.k) := G10.v.cells.2.2.1
    have k3 : u10.cell? ⟨w2.heap.size, 3, none⟩ = some (.int .u64 n1) := G10.v.cells.2.2.2.1
    have k4 : u10.cell? ⟨w2.heap.size, 4, none⟩ = some (.int .u64 n2) := G10.v.cells.2.2.2.2.1
    have k5 : u10.cell? ⟨w2.heap.size, 5, none⟩ = some (.slice none 0 0) := G10.v.cells.2.2.2.2.2.1
    have k6 : u10.cell? ⟨w2.heap.size, 6, none⟩ = some (.int .u64 0) := G10.v.cells.2.2.2.2.2.2.1
    have k7 : u10.cell? ⟨w2.heap.size, 7, none⟩ = some (.slice none 0 0) := G10.v.cells.2.2.2.2.2.2.2.1
    have k8 : u10.cell? ⟨w2.heap.size, 8, none⟩ = some (.slice none 0 0) := G10.v.cells.2.2.2.2.2.2.2.2.1
    have k9 : u10.cell? ⟨w2.heap.size, 9, none⟩ = some (.slice none 0 0) := G10.v.cells.2.2.2.2.2.2.2.2.2
    have f5 := G10.v.fz 5
    have G11 := G10.setD hb (OwnB.mono ho (by omega))
    dsimp only at G11
    clear G9 G10 h4 ht4 ho hlt9
    generalize hw8 : u10.setCell ⟨w2.heap.size, 5, none⟩ (.slice A d.length c) = w8 at *
    have HM : Hid (Cx.m (⟨2, P, n1, n2, A, d.length, c, d, zeroX⟩) = PT.1) := hide (by rw [HP2.out]; rfl)
    have HT : Hid (PT.2 = sD) := hide (by rw [HP2.out])
    have hsm : CSmall ⟨2, P, n1, n2, A, d.length, c, d, zeroX⟩ := ⟨by show d.length ≤ 400; omega, zeroX_few⟩
    have hnm : CNums ⟨2, P, n1, n2, A, d.length, c, d, zeroX⟩ := ⟨by show (-9223372036854775808 : Int) ≤ 2; decide, by show (2 : Int) ≤ 9223372036854775807; decide, by show n1 < 18446744073709551616; omega, by show n2 < 18446744073709551616; omega, by show 0 < 18446744073709551616; decide⟩
    have hdl : d.length = (Cx.m ⟨2, P, n1, n2, A, d.length, c, d, zeroX⟩).d.length := rfl
    obtain ⟨tc, htc⟩ := bool_of (ButLen (Cx.m ⟨2, P, n1, n2, A, d.length, c, d, zeroX⟩))
    have ck : Calls Tryz.prog 121 #[.agg #[.int .i64 2, .int .u16 P.i, .int .u32 P.k, .int .u64 n1, .int .u64 n2, .slice A d.length c, .int .u64 0, .slice none 0 0, .slice none 0 0, .slice none 0 0]] w8 (fun e w' => e = .returned (.int .i64 (ckE tc d.length)) ∧ Below w8.heap.size w8 w') := check9_any ⟨2, P, n1, n2, A, d.length, c, d, zeroX⟩ _ _ tc (G11.own.in_ hnm) hsm.v (Nat.le_refl _) htc
    have hmay := ckE_may htc
    rw [← hdl] at hmay
    obtain ⟨r, hr⟩ : ∃ r, r = ckE tc d.length := ⟨_, rfl⟩
    rw [← hr] at ck hmay
    have q0 : w8.cell? ⟨w2.heap.size, 0, none⟩ = some (.int .i64 2) := G11.v.cells.1
    have q1 : w8.cell? ⟨w2.heap.size, 1, none⟩ = some (.int .u16 P.i) := G11.v.cells.2.1
    have q2 : w8.cell? ⟨w2.heap.size, 2, none⟩ = some (.int .u32 P.k) := G11.v.cells.2.2.1
    have q3 : w8.cell? ⟨w2.heap.size, 3, none⟩ = some (.int .u64 n1) := G11.v.cells.2.2.2.1
    have q4 : w8.cell? ⟨w2.heap.size, 4, none⟩ = some (.int .u64 n2) := G11.v.cells.2.2.2.2.1
    have q5 : w8.cell? ⟨w2.heap.size, 5, none⟩ = some (.slice A d.length c) := G11.v.cells.2.2.2.2.2.1
    have q6 : w8.cell? ⟨w2.heap.size, 6, none⟩ = some (.int .u64 0) := G11.v.cells.2.2.2.2.2.2.1
    have q7 : w8.cell? ⟨w2.heap.size, 7, none⟩ = some (.slice none 0 0) := G11.v.cells.2.2.2.2.2.2.2.1
    have q8 : w8.cell? ⟨w2.heap.size, 8, none⟩ = some (.slice none 0 0) := G11.v.cells.2.2.2.2.2.2.2.2.1
    have q9 : w8.cell? ⟨w2.heap.size, 9, none⟩ = some (.slice none 0 0) := G11.v.cells.2.2.2.2.2.2.2.2.2
    have hgl := G11.v.lt
    have hgo := G11.lo
    have HE := hide (And.intro hsm (And.intro hnm hmay))
    clear htc hmay hr hsm hnm hdl
    by_cases hr0 : r = 0
    · subst hr0
      have hmc := HE.out.2.2.1 rfl
      have HC := hide hmc
      clear hmc
      go_wp2_with fail
      clear k0 k1 k2 k3 k4 k5 k6 k7 k8 k9 hgl1 f5
      refine ck.mono ?_
      rintro e9 w9 ⟨rfl, hb9⟩
      have g9 := G11.read hb (Turn.of_below hb9 b none) (G11.rd.later hb9)
      clear G11 ck q0 q1 q2 q3 q4 q5 q6 q7 q8 q9 hb9 hgl
      by_cases hs0 : sD.t = 0
      · have HRS : Hid (RES = PT) := hide (HRES.out.1 (by rw [HT.out]; exact hs0) (by rw [← HM.out]; exact HC.out))
        have hrd := g9.rd
        rw [hs0] at hrd
        have ce : Calls Tryz.prog 110 #[.pointer (some ⟨b, 0, none⟩)] w9 (fun e w' => e = .returned (.int .i64 0) ∧ w9 = w') := err_any b sD.l 0 w9 hrd
        clear hrd hs0
        have z9 := g9.z.put ⟨2, P, n1, n2, A, d.length, c, d, zeroX⟩
        have o9 : CxOwn (put10 w9 w.heap.size ⟨2, P, n1, n2, A, d.length, c, d, zeroX⟩) w.heap.size ⟨2, P, n1, n2, A, d.length, c, d, zeroX⟩ := CxOwn.mono (base := w.heap.size + 1) (CxOwn.far10 (g9.own.mono (Nat.le_succ_of_le g9.lo)) ⟨2, P, n1, n2, A, d.length, c, d, zeroX⟩ (by omega)) (by omega)
        have r9 : RdAt (put10 w9 w.heap.size ⟨2, P, n1, n2, A, d.length, c, d, zeroX⟩) b sD.l sD.t := rdAt_put10 g9.rd hb ⟨2, P, n1, n2, A, d.length, c, d, zeroX⟩
        have t9 : Turn w (put10 w9 w.heap.size ⟨2, P, n1, n2, A, d.length, c, d, zeroX⟩) b none := turn_put10 g9.turn (Nat.le_refl _) ⟨2, P, n1, n2, A, d.length, c, d, zeroX⟩
        have HFF := hide (And.intro z9 (And.intro o9 (And.intro r9 t9)))
        clear z9 o9 r9 t9
        have j0 : w9.cell? ⟨w.heap.size, 0, none⟩ = some (.int .i64 0) := g9.z.cells.1
        have j1 : w9.cell? ⟨w.heap.size, 1, none⟩ = some (.int .u16 0) := g9.z.cells.2.1
        have j2 : w9.cell? ⟨w.heap.size, 2, none⟩ = some (.int .u32 0) := g9.z.cells.2.2.1
        have j3 : w9.cell? ⟨w.heap.size, 3, none⟩ = some (.int .u64 0) := g9.z.cells.2.2.2.1
        have j4 : w9.cell? ⟨w.heap.size, 4, none⟩ = some (.int .u64 0) := g9.z.cells.2.2.2.2.1
        have j5 : w9.cell? ⟨w.heap.size, 5, none⟩ = some (.slice none 0 0) := g9.z.cells.2.2.2.2.2.1
        have j6 : w9.cell? ⟨w.heap.size, 6, none⟩ = some (.int .u64 0) := g9.z.cells.2.2.2.2.2.2.1
        have j7 : w9.cell? ⟨w.heap.size, 7, none⟩ = some (.slice none 0 0) := g9.z.cells.2.2.2.2.2.2.2.1
        have j8 : w9.cell? ⟨w.heap.size, 8, none⟩ = some (.slice none 0 0) := g9.z.cells.2.2.2.2.2.2.2.2.1
        have j9 : w9.cell? ⟨w.heap.size, 9, none⟩ = some (.slice none 0 0) := g9.z.cells.2.2.2.2.2.2.2.2.2
        have y2 := g9.z.lt
        have x0 := g9.z.fz 0
        have x1 := g9.z.fz 1
        have x2 := g9.z.fz 2
        have x3 := g9.z.fz 3
        have x4 := g9.z.fz 4
        have x50 := g9.z.fz 5
        have x60 := g9.z.fz 6
        have x70 := g9.z.fz 7
        have x8 := g9.z.fz 8
        have x9 := g9.z.fz 9
        have k0 : w9.cell? ⟨w2.heap.size, 0, none⟩ = some (.int .i64 2) := g9.v.cells.1
        have k1 : w9.cell? ⟨w2.heap.size, 1, none⟩ = some (.int .u16 P.i) := g9.v.cells.2.1
        have k2 : w9.cell? ⟨w2.heap.size, 2, none⟩ = some (.int .u32 P.k) := g9.v.cells.2.2.1
        have k3 : w9.cell? ⟨w2.heap.size, 3, none⟩ = some (.int .u64 n1) := g9.v.cells.2.2.2.1
        have k4 : w9.cell? ⟨w2.heap.size, 4, none⟩ = some (.int .u64 n2) := g9.v.cells.2.2.2.2.1
        have k5 : w9.cell? ⟨w2.heap.size, 5, none⟩ = some (.slice A d.length c) := g9.v.cells.2.2.2.2.2.1
        have k6 : w9.cell? ⟨w2.heap.size, 6, none⟩ = some (.int .u64 0) := g9.v.cells.2.2.2.2.2.2.1
        have k7 : w9.cell? ⟨w2.heap.size, 7, none⟩ = some (.slice none 0 0) := g9.v.cells.2.2.2.2.2.2.2.1
        have k8 : w9.cell? ⟨w2.heap.size, 8, none⟩ = some (.slice none 0 0) := g9.v.cells.2.2.2.2.2.2.2.2.1
        have k9 : w9.cell? ⟨w2.heap.size, 9, none⟩ = some (.slice none 0 0) := g9.v.cells.2.2.2.2.2.2.2.2.2
        have y1 := g9.v.lt
        clear g9
        go_wp2_with fail
        refine ce.mono ?_
        rintro e9 w11 ⟨rfl, rfl⟩
        clear ce
        go_wp2
        obtain ⟨z9, o9, r9, t9⟩ := HFF.out
        clear k0 k1 k2 k3 k4 k5 k6 k7 k8 k9 y1
        clear HFF j0 j1 j2 j3 j4 j5 j6 j7 j8 j9 y2 x0 x1 x2 x3 x4 x50 x60 x70 x8 x9
        refine bodyPost_ret (v := .agg #[.int .i64 2, .int .u16 P.i, .int .u32 P.k, .int .u64 n1, .int .u64 n2, .slice A d.length c, .int .u64 0, .slice none 0 0, .slice none 0 0, .slice none 0 0]) (results_cell_row Tryz.results107 _ _ (w.heap.size) _ _ _ _ rfl z9 Tryz.underlying48 rfl rfl) rfl ⟨⟨2, P, n1, n2, A, d.length, c, d, zeroX⟩, rfl, by rw [HRS.out]; exact HM.out, o9, HE.out.1, HE.out.2.1, by rw [HRS.out, HT.out]; exact r9, t9⟩
      · have HRS : Hid (RES = (zC 0 noV, sD)) := hide (by have := HRES.out.2.2 (by rw [HT.out]; exact hs0); rw [this, HT.out])
        have x5 : ((sD.t : Int) != 0) = true := by simp only [bne_iff_ne, ne_eq]; omega
        have x6 : ¬ ((sD.t : Int) = 0) := by omega
        have ce := err_any b sD.l sD.t w9 g9.rd
        clear hs0
        have z9 := g9.z.put (zX 0 zeroX)
        have o9 : CxOwn (put10 w9 w.heap.size (zX 0 zeroX)) w.heap.size (zX 0 zeroX) := CxOwn.mono (base := w.heap.size + 1) (CxOwn.far10 (y := zX 0 zeroX) ⟨OwnB.nil_ _ _, zeroX_own _ _⟩ (zX 0 zeroX) (by omega)) (by omega)
        have r9 : RdAt (put10 w9 w.heap.size (zX 0 zeroX)) b sD.l sD.t := rdAt_put10 g9.rd hb (zX 0 zeroX)
        have t9 : Turn w (put10 w9 w.heap.size (zX 0 zeroX)) b none := turn_put10 g9.turn (Nat.le_refl _) (zX 0 zeroX)
        have HFF := hide (And.intro z9 (And.intro o9 (And.intro r9 t9)))
        clear z9 o9 r9 t9
        have j0 : w9.cell? ⟨w.heap.size, 0, none⟩ = some (.int .i64 0) := g9.z.cells.1
        have j1 : w9.cell? ⟨w.heap.size, 1, none⟩ = some (.int .u16 0) := g9.z.cells.2.1
        have j2 : w9.cell? ⟨w.heap.size, 2, none⟩ = some (.int .u32 0) := g9.z.cells.2.2.1
        have j3 : w9.cell? ⟨w.heap.size, 3, none⟩ = some (.int .u64 0) := g9.z.cells.2.2.2.1
        have j4 : w9.cell? ⟨w.heap.size, 4, none⟩ = some (.int .u64 0) := g9.z.cells.2.2.2.2.1
        have j5 : w9.cell? ⟨w.heap.size, 5, none⟩ = some (.slice none 0 0) := g9.z.cells.2.2.2.2.2.1
        have j6 : w9.cell? ⟨w.heap.size, 6, none⟩ = some (.int .u64 0) := g9.z.cells.2.2.2.2.2.2.1
        have j7 : w9.cell? ⟨w.heap.size, 7, none⟩ = some (.slice none 0 0) := g9.z.cells.2.2.2.2.2.2.2.1
        have j8 : w9.cell? ⟨w.heap.size, 8, none⟩ = some (.slice none 0 0) := g9.z.cells.2.2.2.2.2.2.2.2.1
        have j9 : w9.cell? ⟨w.heap.size, 9, none⟩ = some (.slice none 0 0) := g9.z.cells.2.2.2.2.2.2.2.2.2
        have y2 := g9.z.lt
        have x0 := g9.z.fz 0
        have x1 := g9.z.fz 1
        have x2 := g9.z.fz 2
        have x3 := g9.z.fz 3
        have x4 := g9.z.fz 4
        have x50 := g9.z.fz 5
        have x60 := g9.z.fz 6
        have x70 := g9.z.fz 7
        have x8 := g9.z.fz 8
        have x9 := g9.z.fz 9
        clear g9
        go_wp2_with fail
        refine ce.mono ?_
        rintro e9 w11 ⟨rfl, rfl⟩
        clear ce
        go_wp2
        obtain ⟨z9, o9, r9, t9⟩ := HFF.out
        clear HFF j0 j1 j2 j3 j4 j5 j6 j7 j8 j9 y2 x0 x1 x2 x3 x4 x50 x60 x70 x8 x9
        refine bodyPost_ret (v := .agg #[.int .i64 0, .int .u16 0, .int .u32 0, .int .u64 0, .int .u64 0, .slice none 0 0, .int .u64 0, .slice none 0 0, .slice none 0 0, .slice none 0 0]) (results_cell_row Tryz.results107 _ _ (w.heap.size) _ _ _ _ rfl z9 Tryz.underlying48 rfl rfl) rfl ⟨zX 0 zeroX, rfl, by rw [HRS.out]; rfl, o9, ⟨Nat.zero_le _, zeroX_few⟩, ⟨by decide, by decide, by decide, by decide, by decide⟩, by rw [HRS.out]; exact r9, t9⟩
    · have x7 : (r != 0) = true := by rw [bne_iff_ne]; exact hr0
      go_wp2_with fail
      clear k0 k1 k2 k3 k4 k5 k6 k7 k8 k9 hgl1 f5
      refine ck.mono ?_
      rintro e9 w9 ⟨rfl, hb9⟩
      have g9 := G11.read hb (Turn.of_below hb9 b none) (G11.rd.later hb9)
      clear G11 ck q0 q1 q2 q3 q4 q5 q6 q7 q8 q9 hb9 hgl
      by_cases hs0 : sD.t = 0
      · have HRS : Hid (RES = (zC 0 noV, ⟨sD.l, 5⟩)) := hide (by have := HRES.out.2.1 (by rw [HT.out]; exact hs0) (by rw [← HM.out]; exact fun h => hr0 (HE.out.2.2.2 h)); rw [this, HT.out])
        have hrd := g9.rd
        rw [hs0] at hrd
        have cs : Calls Tryz.prog 161 #[.pointer (some ⟨b, 0, none⟩), .int .i64 5] w9 (ReadsP w9 b (.tuple #[]) sD.l 5) := stop_first b sD.l 5 w9 hrd
        clear hrd hs0
        go_wp2_with fail
        refine cs.mono ?_
        rintro e9 w10 ⟨rfl, h10, ht10⟩
        have g10 := g9.read (s' := ⟨sD.l, 5⟩) hb ht10 h10
        have ce : Calls Tryz.prog 110 #[.pointer (some ⟨b, 0, none⟩)] w10 (fun e w' => e = .returned (.int .i64 5) ∧ w10 = w') := err_any b sD.l 5 w10 h10
        clear cs h10 ht10 g9
        have z9 := g10.z.put (zX 0 zeroX)
        have o9 : CxOwn (put10 w10 w.heap.size (zX 0 zeroX)) w.heap.size (zX 0 zeroX) := CxOwn.mono (base := w.heap.size + 1) (CxOwn.far10 (y := zX 0 zeroX) ⟨OwnB.nil_ _ _, zeroX_own _ _⟩ (zX 0 zeroX) (by omega)) (by omega)
        have r9 : RdAt (put10 w10 w.heap.size (zX 0 zeroX)) b (⟨sD.l, 5⟩ : RS).l (⟨sD.l, 5⟩ : RS).t := rdAt_put10 g10.rd hb (zX 0 zeroX)
        have t9 : Turn w (put10 w10 w.heap.size (zX 0 zeroX)) b none := turn_put10 g10.turn (Nat.le_refl _) (zX 0 zeroX)
        have HFF := hide (And.intro z9 (And.intro o9 (And.intro r9 t9)))
        clear z9 o9 r9 t9
        have j0 : w10.cell? ⟨w.heap.size, 0, none⟩ = some (.int .i64 0) := g10.z.cells.1
        have j1 : w10.cell? ⟨w.heap.size, 1, none⟩ = some (.int .u16 0) := g10.z.cells.2.1
        have j2 : w10.cell? ⟨w.heap.size, 2, none⟩ = some (.int .u32 0) := g10.z.cells.2.2.1
        have j3 : w10.cell? ⟨w.heap.size, 3, none⟩ = some (.int .u64 0) := g10.z.cells.2.2.2.1
        have j4 : w10.cell? ⟨w.heap.size, 4, none⟩ = some (.int .u64 0) := g10.z.cells.2.2.2.2.1
        have j5 : w10.cell? ⟨w.heap.size, 5, none⟩ = some (.slice none 0 0) := g10.z.cells.2.2.2.2.2.1
        have j6 : w10.cell? ⟨w.heap.size, 6, none⟩ = some (.int .u64 0) := g10.z.cells.2.2.2.2.2.2.1
        have j7 : w10.cell? ⟨w.heap.size, 7, none⟩ = some (.slice none 0 0) := g10.z.cells.2.2.2.2.2.2.2.1
        have j8 : w10.cell? ⟨w.heap.size, 8, none⟩ = some (.slice none 0 0) := g10.z.cells.2.2.2.2.2.2.2.2.1
        have j9 : w10.cell? ⟨w.heap.size, 9, none⟩ = some (.slice none 0 0) := g10.z.cells.2.2.2.2.2.2.2.2.2
        have y2 := g10.z.lt
        have x0 := g10.z.fz 0
        have x1 := g10.z.fz 1
        have x2 := g10.z.fz 2
        have x3 := g10.z.fz 3
        have x4 := g10.z.fz 4
        have x50 := g10.z.fz 5
        have x60 := g10.z.fz 6
        have x70 := g10.z.fz 7
        have x8 := g10.z.fz 8
        have x9 := g10.z.fz 9
        clear g10
        go_wp2_with fail
        refine ce.mono ?_
        rintro e9 w11 ⟨rfl, rfl⟩
        clear ce
        go_wp2
        obtain ⟨z9, o9, r9, t9⟩ := HFF.out
        clear HFF j0 j1 j2 j3 j4 j5 j6 j7 j8 j9 y2 x0 x1 x2 x3 x4 x50 x60 x70 x8 x9
        refine bodyPost_ret (v := .agg #[.int .i64 0, .int .u16 0, .int .u32 0, .int .u64 0, .int .u64 0, .slice none 0 0, .int .u64 0, .slice none 0 0, .slice none 0 0, .slice none 0 0]) (results_cell_row Tryz.results107 _ _ (w.heap.size) _ _ _ _ rfl z9 Tryz.underlying48 rfl rfl) rfl ⟨zX 0 zeroX, rfl, by rw [HRS.out]; rfl, o9, ⟨Nat.zero_le _, zeroX_few⟩, ⟨by decide, by decide, by decide, by decide, by decide⟩, by rw [HRS.out]; exact r9, t9⟩
      · have HRS : Hid (RES = (zC 0 noV, sD)) := hide (by have := HRES.out.2.2 (by rw [HT.out]; exact hs0); rw [this, HT.out])
        have x5 : ((sD.t : Int) != 0) = true := by simp only [bne_iff_ne, ne_eq]; omega
        have x6 : ¬ ((sD.t : Int) = 0) := by omega
        have cs : Calls Tryz.prog 161 #[.pointer (some ⟨b, 0, none⟩), .int .i64 5] w9 (ReadsP w9 b (.tuple #[]) sD.l sD.t) := stop_more b sD.l sD.t 5 w9 g9.rd hs0
        clear hs0
        go_wp2_with fail
        refine cs.mono ?_
        rintro e9 w10 ⟨rfl, h10, ht10⟩
        have g10 := g9.read (s' := sD) hb ht10 h10
        have ce := err_any b sD.l sD.t w10 h10
        clear cs h10 ht10 g9
        have z9 := g10.z.put (zX 0 zeroX)
        have o9 : CxOwn (put10 w10 w.heap.size (zX 0 zeroX)) w.heap.size (zX 0 zeroX) := CxOwn.mono (base := w.heap.size + 1) (CxOwn.far10 (y := zX 0 zeroX) ⟨OwnB.nil_ _ _, zeroX_own _ _⟩ (zX 0 zeroX) (by omega)) (by omega)
        have r9 : RdAt (put10 w10 w.heap.size (zX 0 zeroX)) b sD.l sD.t := rdAt_put10 g10.rd hb (zX 0 zeroX)
        have t9 : Turn w (put10 w10 w.heap.size (zX 0 zeroX)) b none := turn_put10 g10.turn (Nat.le_refl _) (zX 0 zeroX)
        have HFF := hide (And.intro z9 (And.intro o9 (And.intro r9 t9)))
        clear z9 o9 r9 t9
        have j0 : w10.cell? ⟨w.heap.size, 0, none⟩ = some (.int .i64 0) := g10.z.cells.1
        have j1 : w10.cell? ⟨w.heap.size, 1, none⟩ = some (.int .u16 0) := g10.z.cells.2.1
        have j2 : w10.cell? ⟨w.heap.size, 2, none⟩ = some (.int .u32 0) := g10.z.cells.2.2.1
        have j3 : w10.cell? ⟨w.heap.size, 3, none⟩ = some (.int .u64 0) := g10.z.cells.2.2.2.1
        have j4 : w10.cell? ⟨w.heap.size, 4, none⟩ = some (.int .u64 0) := g10.z.cells.2.2.2.2.1
        have j5 : w10.cell? ⟨w.heap.size, 5, none⟩ = some (.slice none 0 0) := g10.z.cells.2.2.2.2.2.1
        have j6 : w10.cell? ⟨w.heap.size, 6, none⟩ = some (.int .u64 0) := g10.z.cells.2.2.2.2.2.2.1
        have j7 : w10.cell? ⟨w.heap.size, 7, none⟩ = some (.slice none 0 0) := g10.z.cells.2.2.2.2.2.2.2.1
        have j8 : w10.cell? ⟨w.heap.size, 8, none⟩ = some (.slice none 0 0) := g10.z.cells.2.2.2.2.2.2.2.2.1
        have j9 : w10.cell? ⟨w.heap.size, 9, none⟩ = some (.slice none 0 0) := g10.z.cells.2.2.2.2.2.2.2.2.2
        have y2 := g10.z.lt
        have x0 := g10.z.fz 0
        have x1 := g10.z.fz 1
        have x2 := g10.z.fz 2
        have x3 := g10.z.fz 3
        have x4 := g10.z.fz 4
        have x50 := g10.z.fz 5
        have x60 := g10.z.fz 6
        have x70 := g10.z.fz 7
        have x8 := g10.z.fz 8
        have x9 := g10.z.fz 9
        clear g10
        go_wp2_with fail
        refine ce.mono ?_
        rintro e9 w11 ⟨rfl, rfl⟩
        clear ce
        go_wp2
        obtain ⟨z9, o9, r9, t9⟩ := HFF.out
        clear HFF j0 j1 j2 j3 j4 j5 j6 j7 j8 j9 y2 x0 x1 x2 x3 x4 x50 x60 x70 x8 x9
        refine bodyPost_ret (v := .agg #[.int .i64 0, .int .u16 0, .int .u32 0, .int .u64 0, .int .u64 0, .slice none 0 0, .int .u64 0, .slice none 0 0, .slice none 0 0, .slice none 0 0]) (results_cell_row Tryz.results107 _ _ (w.heap.size) _ _ _ _ rfl z9 Tryz.underlying48 rfl rfl) rfl ⟨zX 0 zeroX, rfl, by rw [HRS.out]; rfl, o9, ⟨Nat.zero_le _, zeroX_few⟩, ⟨by decide, by decide, by decide, by decide, by decide⟩, by rw [HRS.out]; exact r9, t9⟩
  by_cases hk3 : K = 3
  · subst hk3
    have G1 := G 3
    have HB3 : Hid (PT = (zC 3 (viewS s1).1, (viewS s1).2)) := hide (by rw [HB.out, if_neg (by decide), if_pos rfl])
    clear G HB
    have cv := vget_tot b s1 _ G1.rd
    unfold VGetT at cv
    go_wp2_with fail
    generalize hw8 : w2.alloc (.cells #[.int .i64 3, .int .u16 0, .int .u32 0, .int .u64 0, .int .u64 0, .slice none 0 0, .int .u64 0, .slice none 0 0, .slice none 0 0, .slice none 0 0] 48) = w3 at *
    refine cv.mono ?_
    rintro e w4 ⟨xv, rfl, hxv, hxo, hxs, hxi, h4, ht4⟩
    have G4 := G1.read hb ht4 h4
    have hgl1 := G1.v.lt
    have k0 : w4.cell? ⟨w2.heap.size, 0, none⟩ = some (.int .i64 3) := G4.v.cells.1
    have k1 : w4.cell? ⟨w2.heap.size, 1, none⟩ = some (.int .u16 0) := G4.v.cells.2.1
    have k2 : w4.cell? ⟨w2.heap.size, 2, none⟩ = some (.int .u32 0) := G4.v.cells.2.2.1
    have k3 : w4.cell? ⟨w2.heap.size, 3, none⟩ = some (.int .u64 0) := G4.v.cells.2.2.2.1
    have k4 : w4.cell? ⟨w2.heap.size, 4, none⟩ = some (.int .u64 0) := G4.v.cells.2.2.2.2.1
    have k5 : w4.cell? ⟨w2.heap.size, 5, none⟩ = some (.slice none 0 0) := G4.v.cells.2.2.2.2.2.1
    have k6 : w4.cell? ⟨w2.heap.size, 6, none⟩ = some (.int .u64 0) := G4.v.cells.2.2.2.2.2.2.1
    have k7 : w4.cell? ⟨w2.heap.size, 7, none⟩ = some (.slice none 0 0) := G4.v.cells.2.2.2.2.2.2.2.1
    have k8 : w4.cell? ⟨w2.heap.size, 8, none⟩ = some (.slice none 0 0) := G4.v.cells.2.2.2.2.2.2.2.2.1
    have k9 : w4.cell? ⟨w2.heap.size, 9, none⟩ = some (.slice none 0 0) := G4.v.cells.2.2.2.2.2.2.2.2.2
    have f6 := G4.v.fz 6
    have f7 := G4.v.fz 7
    have f8 := G4.v.fz 8
    have f9 := G4.v.fz 9
    have hlt4 := G4.v.lt
    have G5 := G4.setV hb (hxo.mono (by omega))
    dsimp only [zX] at G5
    clear cv G1 h4 ht4 hw8 hgl1
    unfold putV at G5
    generalize hw8 : ((((w4.setCell ⟨w2.heap.size, 6, none⟩ (.int .u64 xv.id)).setCell ⟨w2.heap.size, 7, none⟩ (.slice xv.A xv.m xv.c)).setCell ⟨w2.heap.size, 8, none⟩ (.slice xv.B xv.d xv.e)).setCell ⟨w2.heap.size, 9, none⟩ (.slice xv.C xv.f xv.g)) = w8 at *
    have HM : Hid (Cx.m ((zX 3 xv)) = PT.1) := hide (by rw [HB3.out]; show (⟨3, default, 0, 0, [], xv.v⟩ : Cm) = _; rw [hxv]; rfl)
    have HT : Hid (PT.2 = (viewS s1).2) := hide (by rw [HB3.out])
    have hsm : CSmall (zX 3 xv) := ⟨Nat.zero_le _, hxs⟩
    have hnm : CNums (zX 3 xv) := ⟨by show (-9223372036854775808 : Int) ≤ 3; decide, by show (3 : Int) ≤ 9223372036854775807; decide, by show 0 < 18446744073709551616; decide, by show 0 < 18446744073709551616; decide, hxi⟩
    have hdl : 0 = (Cx.m (zX 3 xv)).d.length := rfl
    obtain ⟨tc, htc⟩ := bool_of (ButLen (Cx.m (zX 3 xv)))
    have ck : Calls Tryz.prog 121 #[.agg #[.int .i64 3, .int .u16 0, .int .u32 0, .int .u64 0, .int .u64 0, .slice none 0 0, .int .u64 xv.id, .slice xv.A xv.m xv.c, .slice xv.B xv.d xv.e, .slice xv.C xv.f xv.g]] w8 (fun e w' => e = .returned (.int .i64 (ckE tc 0)) ∧ Below w8.heap.size w8 w') := check9_any (zX 3 xv) _ _ tc (G5.own.in_ hnm) hsm.v (Nat.le_refl _) htc
    have hmay := ckE_may htc
    rw [← hdl] at hmay
    obtain ⟨r, hr⟩ : ∃ r, r = ckE tc 0 := ⟨_, rfl⟩
    rw [← hr] at ck hmay
    have q0 : w8.cell? ⟨w2.heap.size, 0, none⟩ = some (.int .i64 3) := G5.v.cells.1
    have q1 : w8.cell? ⟨w2.heap.size, 1, none⟩ = some (.int .u16 0) := G5.v.cells.2.1
    have q2 : w8.cell? ⟨w2.heap.size, 2, none⟩ = some (.int .u32 0) := G5.v.cells.2.2.1
    have q3 : w8.cell? ⟨w2.heap.size, 3, none⟩ = some (.int .u64 0) := G5.v.cells.2.2.2.1
    have q4 : w8.cell? ⟨w2.heap.size, 4, none⟩ = some (.int .u64 0) := G5.v.cells.2.2.2.2.1
    have q5 : w8.cell? ⟨w2.heap.size, 5, none⟩ = some (.slice none 0 0) := G5.v.cells.2.2.2.2.2.1
    have q6 : w8.cell? ⟨w2.heap.size, 6, none⟩ = some (.int .u64 xv.id) := G5.v.cells.2.2.2.2.2.2.1
    have q7 : w8.cell? ⟨w2.heap.size, 7, none⟩ = some (.slice xv.A xv.m xv.c) := G5.v.cells.2.2.2.2.2.2.2.1
    have q8 : w8.cell? ⟨w2.heap.size, 8, none⟩ = some (.slice xv.B xv.d xv.e) := G5.v.cells.2.2.2.2.2.2.2.2.1
    have q9 : w8.cell? ⟨w2.heap.size, 9, none⟩ = some (.slice xv.C xv.f xv.g) := G5.v.cells.2.2.2.2.2.2.2.2.2
    have hgl := G5.v.lt
    have hgo := G5.lo
    have HE := hide (And.intro hsm (And.intro hnm hmay))
    clear htc hmay hr hsm hnm hdl
    by_cases hr0 : r = 0
    · subst hr0
      have hmc := HE.out.2.2.1 rfl
      have HC := hide hmc
      clear hmc
      go_wp2_with fail
      clear k0 k1 k2 k3 k4 k5 k6 k7 k8 k9 f6 f7 f8 f9 hlt4
      refine ck.mono ?_
      rintro e9 w9 ⟨rfl, hb9⟩
      have g9 := G5.read hb (Turn.of_below hb9 b none) (G5.rd.later hb9)
      clear G5 ck q0 q1 q2 q3 q4 q5 q6 q7 q8 q9 hb9 hgl
      by_cases hs0 : (viewS s1).2.t = 0
      · have HRS : Hid (RES = PT) := hide (HRES.out.1 (by rw [HT.out]; exact hs0) (by rw [← HM.out]; exact HC.out))
        have hrd := g9.rd
        rw [hs0] at hrd
        have ce : Calls Tryz.prog 110 #[.pointer (some ⟨b, 0, none⟩)] w9 (fun e w' => e = .returned (.int .i64 0) ∧ w9 = w') := err_any b (viewS s1).2.l 0 w9 hrd
        clear hrd hs0
        have z9 := g9.z.put (zX 3 xv)
        have o9 : CxOwn (put10 w9 w.heap.size (zX 3 xv)) w.heap.size (zX 3 xv) := CxOwn.mono (base := w.heap.size + 1) (CxOwn.far10 (g9.own.mono (Nat.le_succ_of_le g9.lo)) (zX 3 xv) (by omega)) (by omega)
        have r9 : RdAt (put10 w9 w.heap.size (zX 3 xv)) b (viewS s1).2.l (viewS s1).2.t := rdAt_put10 g9.rd hb (zX 3 xv)
        have t9 : Turn w (put10 w9 w.heap.size (zX 3 xv)) b none := turn_put10 g9.turn (Nat.le_refl _) (zX 3 xv)
        have HFF := hide (And.intro z9 (And.intro o9 (And.intro r9 t9)))
        clear z9 o9 r9 t9
        have j0 : w9.cell? ⟨w.heap.size, 0, none⟩ = some (.int .i64 0) := g9.z.cells.1
        have j1 : w9.cell? ⟨w.heap.size, 1, none⟩ = some (.int .u16 0) := g9.z.cells.2.1
        have j2 : w9.cell? ⟨w.heap.size, 2, none⟩ = some (.int .u32 0) := g9.z.cells.2.2.1
        have j3 : w9.cell? ⟨w.heap.size, 3, none⟩ = some (.int .u64 0) := g9.z.cells.2.2.2.1
        have j4 : w9.cell? ⟨w.heap.size, 4, none⟩ = some (.int .u64 0) := g9.z.cells.2.2.2.2.1
        have j5 : w9.cell? ⟨w.heap.size, 5, none⟩ = some (.slice none 0 0) := g9.z.cells.2.2.2.2.2.1
        have j6 : w9.cell? ⟨w.heap.size, 6, none⟩ = some (.int .u64 0) := g9.z.cells.2.2.2.2.2.2.1
        have j7 : w9.cell? ⟨w.heap.size, 7, none⟩ = some (.slice none 0 0) := g9.z.cells.2.2.2.2.2.2.2.1
        have j8 : w9.cell? ⟨w.heap.size, 8, none⟩ = some (.slice none 0 0) := g9.z.cells.2.2.2.2.2.2.2.2.1
        have j9 : w9.cell? ⟨w.heap.size, 9, none⟩ = some (.slice none 0 0) := g9.z.cells.2.2.2.2.2.2.2.2.2
        have y2 := g9.z.lt
        have x0 := g9.z.fz 0
        have x1 := g9.z.fz 1
        have x2 := g9.z.fz 2
        have x3 := g9.z.fz 3
        have x4 := g9.z.fz 4
        have x50 := g9.z.fz 5
        have x60 := g9.z.fz 6
        have x70 := g9.z.fz 7
        have x8 := g9.z.fz 8
        have x9 := g9.z.fz 9
        have k0 : w9.cell? ⟨w2.heap.size, 0, none⟩ = some (.int .i64 3) := g9.v.cells.1
        have k1 : w9.cell? ⟨w2.heap.size, 1, none⟩ = some (.int .u16 0) := g9.v.cells.2.1
        have k2 : w9.cell? ⟨w2.heap.size, 2, none⟩ = some (.int .u32 0) := g9.v.cells.2.2.1
        have k3 : w9.cell? ⟨w2.heap.size, 3, none⟩ = some (.int .u64 0) := g9.v.cells.2.2.2.1
        have k4 : w9.cell? ⟨w2.heap.size, 4, none⟩ = some (.int .u64 0) := g9.v.cells.2.2.2.2.1
        have k5 : w9.cell? ⟨w2.heap.size, 5, none⟩ = some (.slice none 0 0) := g9.v.cells.2.2.2.2.2.1
        have k6 : w9.cell? ⟨w2.heap.size, 6, none⟩ = some (.int .u64 xv.id) := g9.v.cells.2.2.2.2.2.2.1
        have k7 : w9.cell? ⟨w2.heap.size, 7, none⟩ = some (.slice xv.A xv.m xv.c) := g9.v.cells.2.2.2.2.2.2.2.1
        have k8 : w9.cell? ⟨w2.heap.size, 8, none⟩ = some (.slice xv.B xv.d xv.e) := g9.v.cells.2.2.2.2.2.2.2.2.1
        have k9 : w9.cell? ⟨w2.heap.size, 9, none⟩ = some (.slice xv.C xv.f xv.g) := g9.v.cells.2.2.2.2.2.2.2.2.2
        have y1 := g9.v.lt
        clear g9
        go_wp2_with fail
        refine ce.mono ?_
        rintro e9 w11 ⟨rfl, rfl⟩
        clear ce
        go_wp2
        obtain ⟨z9, o9, r9, t9⟩ := HFF.out
        clear k0 k1 k2 k3 k4 k5 k6 k7 k8 k9 y1
        clear HFF j0 j1 j2 j3 j4 j5 j6 j7 j8 j9 y2 x0 x1 x2 x3 x4 x50 x60 x70 x8 x9
        refine bodyPost_ret (v := .agg #[.int .i64 3, .int .u16 0, .int .u32 0, .int .u64 0, .int .u64 0, .slice none 0 0, .int .u64 xv.id, .slice xv.A xv.m xv.c, .slice xv.B xv.d xv.e, .slice xv.C xv.f xv.g]) (results_cell_row Tryz.results107 _ _ (w.heap.size) _ _ _ _ rfl z9 Tryz.underlying48 rfl rfl) rfl ⟨(zX 3 xv), rfl, by rw [HRS.out]; exact HM.out, o9, HE.out.1, HE.out.2.1, by rw [HRS.out, HT.out]; exact r9, t9⟩
      · have HRS : Hid (RES = (zC 0 noV, (viewS s1).2)) := hide (by have := HRES.out.2.2 (by rw [HT.out]; exact hs0); rw [this, HT.out])
        have x5 : (((viewS s1).2.t : Int) != 0) = true := by simp only [bne_iff_ne, ne_eq]; omega
        have x6 : ¬ (((viewS s1).2.t : Int) = 0) := by omega
        have ce := err_any b (viewS s1).2.l (viewS s1).2.t w9 g9.rd
        clear hs0
        have z9 := g9.z.put (zX 0 zeroX)
        have o9 : CxOwn (put10 w9 w.heap.size (zX 0 zeroX)) w.heap.size (zX 0 zeroX) := CxOwn.mono (base := w.heap.size + 1) (CxOwn.far10 (y := zX 0 zeroX) ⟨OwnB.nil_ _ _, zeroX_own _ _⟩ (zX 0 zeroX) (by omega)) (by omega)
        have r9 : RdAt (put10 w9 w.heap.size (zX 0 zeroX)) b (viewS s1).2.l (viewS s1).2.t := rdAt_put10 g9.rd hb (zX 0 zeroX)
        have t9 : Turn w (put10 w9 w.heap.size (zX 0 zeroX)) b none := turn_put10 g9.turn (Nat.le_refl _) (zX 0 zeroX)
        have HFF := hide (And.intro z9 (And.intro o9 (And.intro r9 t9)))
        clear z9 o9 r9 t9
        have j0 : w9.cell? ⟨w.heap.size, 0, none⟩ = some (.int .i64 0) := g9.z.cells.1
        have j1 : w9.cell? ⟨w.heap.size, 1, none⟩ = some (.int .u16 0) := g9.z.cells.2.1
        have j2 : w9.cell? ⟨w.heap.size, 2, none⟩ = some (.int .u32 0) := g9.z.cells.2.2.1
        have j3 : w9.cell? ⟨w.heap.size, 3, none⟩ = some (.int .u64 0) := g9.z.cells.2.2.2.1
        have j4 : w9.cell? ⟨w.heap.size, 4, none⟩ = some (.int .u64 0) := g9.z.cells.2.2.2.2.1
        have j5 : w9.cell? ⟨w.heap.size, 5, none⟩ = some (.slice none 0 0) := g9.z.cells.2.2.2.2.2.1
        have j6 : w9.cell? ⟨w.heap.size, 6, none⟩ = some (.int .u64 0) := g9.z.cells.2.2.2.2.2.2.1
        have j7 : w9.cell? ⟨w.heap.size, 7, none⟩ = some (.slice none 0 0) := g9.z.cells.2.2.2.2.2.2.2.1
        have j8 : w9.cell? ⟨w.heap.size, 8, none⟩ = some (.slice none 0 0) := g9.z.cells.2.2.2.2.2.2.2.2.1
        have j9 : w9.cell? ⟨w.heap.size, 9, none⟩ = some (.slice none 0 0) := g9.z.cells.2.2.2.2.2.2.2.2.2
        have y2 := g9.z.lt
        have x0 := g9.z.fz 0
        have x1 := g9.z.fz 1
        have x2 := g9.z.fz 2
        have x3 := g9.z.fz 3
        have x4 := g9.z.fz 4
        have x50 := g9.z.fz 5
        have x60 := g9.z.fz 6
        have x70 := g9.z.fz 7
        have x8 := g9.z.fz 8
        have x9 := g9.z.fz 9
        clear g9
        go_wp2_with fail
        refine ce.mono ?_
        rintro e9 w11 ⟨rfl, rfl⟩
        clear ce
        go_wp2
        obtain ⟨z9, o9, r9, t9⟩ := HFF.out
        clear HFF j0 j1 j2 j3 j4 j5 j6 j7 j8 j9 y2 x0 x1 x2 x3 x4 x50 x60 x70 x8 x9
        refine bodyPost_ret (v := .agg #[.int .i64 0, .int .u16 0, .int .u32 0, .int .u64 0, .int .u64 0, .slice none 0 0, .int .u64 0, .slice none 0 0, .slice none 0 0, .slice none 0 0]) (results_cell_row Tryz.results107 _ _ (w.heap.size) _ _ _ _ rfl z9 Tryz.underlying48 rfl rfl) rfl ⟨zX 0 zeroX, rfl, by rw [HRS.out]; rfl, o9, ⟨Nat.zero_le _, zeroX_few⟩, ⟨by decide, by decide, by decide, by decide, by decide⟩, by rw [HRS.out]; exact r9, t9⟩
    · have x7 : (r != 0) = true := by rw [bne_iff_ne]; exact hr0
      go_wp2_with fail
      clear k0 k1 k2 k3 k4 k5 k6 k7 k8 k9 f6 f7 f8 f9 hlt4
      refine ck.mono ?_
      rintro e9 w9 ⟨rfl, hb9⟩
      have g9 := G5.read hb (Turn.of_below hb9 b none) (G5.rd.later hb9)
      clear G5 ck q0 q1 q2 q3 q4 q5 q6 q7 q8 q9 hb9 hgl
      by_cases hs0 : (viewS s1).2.t = 0
      · have HRS : Hid (RES = (zC 0 noV, ⟨(viewS s1).2.l, 5⟩)) := hide (by have := HRES.out.2.1 (by rw [HT.out]; exact hs0) (by rw [← HM.out]; exact fun h => hr0 (HE.out.2.2.2 h)); rw [this, HT.out])
        have hrd := g9.rd
        rw [hs0] at hrd
        have cs : Calls Tryz.prog 161 #[.pointer (some ⟨b, 0, none⟩), .int .i64 5] w9 (ReadsP w9 b (.tuple #[]) (viewS s1).2.l 5) := stop_first b (viewS s1).2.l 5 w9 hrd
        clear hrd hs0
        go_wp2_with fail
        refine cs.mono ?_
        rintro e9 w10 ⟨rfl, h10, ht10⟩
        have g10 := g9.read (s' := ⟨(viewS s1).2.l, 5⟩) hb ht10 h10
        have ce : Calls Tryz.prog 110 #[.pointer (some ⟨b, 0, none⟩)] w10 (fun e w' => e = .returned (.int .i64 5) ∧ w10 = w') := err_any b (viewS s1).2.l 5 w10 h10
        clear cs h10 ht10 g9
        have z9 := g10.z.put (zX 0 zeroX)
        have o9 : CxOwn (put10 w10 w.heap.size (zX 0 zeroX)) w.heap.size (zX 0 zeroX) := CxOwn.mono (base := w.heap.size + 1) (CxOwn.far10 (y := zX 0 zeroX) ⟨OwnB.nil_ _ _, zeroX_own _ _⟩ (zX 0 zeroX) (by omega)) (by omega)
        have r9 : RdAt (put10 w10 w.heap.size (zX 0 zeroX)) b (⟨(viewS s1).2.l, 5⟩ : RS).l (⟨(viewS s1).2.l, 5⟩ : RS).t := rdAt_put10 g10.rd hb (zX 0 zeroX)
        have t9 : Turn w (put10 w10 w.heap.size (zX 0 zeroX)) b none := turn_put10 g10.turn (Nat.le_refl _) (zX 0 zeroX)
        have HFF := hide (And.intro z9 (And.intro o9 (And.intro r9 t9)))
        clear z9 o9 r9 t9
        have j0 : w10.cell? ⟨w.heap.size, 0, none⟩ = some (.int .i64 0) := g10.z.cells.1
        have j1 : w10.cell? ⟨w.heap.size, 1, none⟩ = some (.int .u16 0) := g10.z.cells.2.1
        have j2 : w10.cell? ⟨w.heap.size, 2, none⟩ = some (.int .u32 0) := g10.z.cells.2.2.1
        have j3 : w10.cell? ⟨w.heap.size, 3, none⟩ = some (.int .u64 0) := g10.z.cells.2.2.2.1
        have j4 : w10.cell? ⟨w.heap.size, 4, none⟩ = some (.int .u64 0) := g10.z.cells.2.2.2.2.1
        have j5 : w10.cell? ⟨w.heap.size, 5, none⟩ = some (.slice none 0 0) := g10.z.cells.2.2.2.2.2.1
        have j6 : w10.cell? ⟨w.heap.size, 6, none⟩ = some (.int .u64 0) := g10.z.cells.2.2.2.2.2.2.1
        have j7 : w10.cell? ⟨w.heap.size, 7, none⟩ = some (.slice none 0 0) := g10.z.cells.2.2.2.2.2.2.2.1
        have j8 : w10.cell? ⟨w.heap.size, 8, none⟩ = some (.slice none 0 0) := g10.z.cells.2.2.2.2.2.2.2.2.1
        have j9 : w10.cell? ⟨w.heap.size, 9, none⟩ = some (.slice none 0 0) := g10.z.cells.2.2.2.2.2.2.2.2.2
        have y2 := g10.z.lt
        have x0 := g10.z.fz 0
        have x1 := g10.z.fz 1
        have x2 := g10.z.fz 2
        have x3 := g10.z.fz 3
        have x4 := g10.z.fz 4
        have x50 := g10.z.fz 5
        have x60 := g10.z.fz 6
        have x70 := g10.z.fz 7
        have x8 := g10.z.fz 8
        have x9 := g10.z.fz 9
        clear g10
        go_wp2_with fail
        refine ce.mono ?_
        rintro e9 w11 ⟨rfl, rfl⟩
        clear ce
        go_wp2
        obtain ⟨z9, o9, r9, t9⟩ := HFF.out
        clear HFF j0 j1 j2 j3 j4 j5 j6 j7 j8 j9 y2 x0 x1 x2 x3 x4 x50 x60 x70 x8 x9
        refine bodyPost_ret (v := .agg #[.int .i64 0, .int .u16 0, .int .u32 0, .int .u64 0, .int .u64 0, .slice none 0 0, .int .u64 0, .slice none 0 0, .slice none 0 0, .slice none 0 0]) (results_cell_row Tryz.results107 _ _ (w.heap.size) _ _ _ _ rfl z9 Tryz.underlying48 rfl rfl) rfl ⟨zX 0 zeroX, rfl, by rw [HRS.out]; rfl, o9, ⟨Nat.zero_le _, zeroX_few⟩, ⟨by decide, by decide, by decide, by decide, by decide⟩, by rw [HRS.out]; exact r9, t9⟩
      · have HRS : Hid (RES = (zC 0 noV, (viewS s1).2)) := hide (by have := HRES.out.2.2 (by rw [HT.out]; exact hs0); rw [this, HT.out])
        have x5 : (((viewS s1).2.t : Int) != 0) = true := by simp only [bne_iff_ne, ne_eq]; omega
        have x6 : ¬ (((viewS s1).2.t : Int) = 0) := by omega
        have cs : Calls Tryz.prog 161 #[.pointer (some ⟨b, 0, none⟩), .int .i64 5] w9 (ReadsP w9 b (.tuple #[]) (viewS s1).2.l (viewS s1).2.t) := stop_more b (viewS s1).2.l (viewS s1).2.t 5 w9 g9.rd hs0
        clear hs0
        go_wp2_with fail
        refine cs.mono ?_
        rintro e9 w10 ⟨rfl, h10, ht10⟩
        have g10 := g9.read (s' := (viewS s1).2) hb ht10 h10
        have ce := err_any b (viewS s1).2.l (viewS s1).2.t w10 h10
        clear cs h10 ht10 g9
        have z9 := g10.z.put (zX 0 zeroX)
        have o9 : CxOwn (put10 w10 w.heap.size (zX 0 zeroX)) w.heap.size (zX 0 zeroX) := CxOwn.mono (base := w.heap.size + 1) (CxOwn.far10 (y := zX 0 zeroX) ⟨OwnB.nil_ _ _, zeroX_own _ _⟩ (zX 0 zeroX) (by omega)) (by omega)
        have r9 : RdAt (put10 w10 w.heap.size (zX 0 zeroX)) b (viewS s1).2.l (viewS s1).2.t := rdAt_put10 g10.rd hb (zX 0 zeroX)
        have t9 : Turn w (put10 w10 w.heap.size (zX 0 zeroX)) b none := turn_put10 g10.turn (Nat.le_refl _) (zX 0 zeroX)
        have HFF := hide (And.intro z9 (And.intro o9 (And.intro r9 t9)))
        clear z9 o9 r9 t9
        have j0 : w10.cell? ⟨w.heap.size, 0, none⟩ = some (.int .i64 0) := g10.z.cells.1
        have j1 : w10.cell? ⟨w.heap.size, 1, none⟩ = some (.int .u16 0) := g10.z.cells.2.1
        have j2 : w10.cell? ⟨w.heap.size, 2, none⟩ = some (.int .u32 0) := g10.z.cells.2.2.1
        have j3 : w10.cell? ⟨w.heap.size, 3, none⟩ = some (.int .u64 0) := g10.z.cells.2.2.2.1
        have j4 : w10.cell? ⟨w.heap.size, 4, none⟩ = some (.int .u64 0) := g10.z.cells.2.2.2.2.1
        have j5 : w10.cell? ⟨w.heap.size, 5, none⟩ = some (.slice none 0 0) := g10.z.cells.2.2.2.2.2.1
        have j6 : w10.cell? ⟨w.heap.size, 6, none⟩ = some (.int .u64 0) := g10.z.cells.2.2.2.2.2.2.1
        have j7 : w10.cell? ⟨w.heap.size, 7, none⟩ = some (.slice none 0 0) := g10.z.cells.2.2.2.2.2.2.2.1
        have j8 : w10.cell? ⟨w.heap.size, 8, none⟩ = some (.slice none 0 0) := g10.z.cells.2.2.2.2.2.2.2.2.1
        have j9 : w10.cell? ⟨w.heap.size, 9, none⟩ = some (.slice none 0 0) := g10.z.cells.2.2.2.2.2.2.2.2.2
        have y2 := g10.z.lt
        have x0 := g10.z.fz 0
        have x1 := g10.z.fz 1
        have x2 := g10.z.fz 2
        have x3 := g10.z.fz 3
        have x4 := g10.z.fz 4
        have x50 := g10.z.fz 5
        have x60 := g10.z.fz 6
        have x70 := g10.z.fz 7
        have x8 := g10.z.fz 8
        have x9 := g10.z.fz 9
        clear g10
        go_wp2_with fail
        refine ce.mono ?_
        rintro e9 w11 ⟨rfl, rfl⟩
        clear ce
        go_wp2
        obtain ⟨z9, o9, r9, t9⟩ := HFF.out
        clear HFF j0 j1 j2 j3 j4 j5 j6 j7 j8 j9 y2 x0 x1 x2 x3 x4 x50 x60 x70 x8 x9
        refine bodyPost_ret (v := .agg #[.int .i64 0, .int .u16 0, .int .u32 0, .int .u64 0, .int .u64 0, .slice none 0 0, .int .u64 0, .slice none 0 0, .slice none 0 0, .slice none 0 0]) (results_cell_row Tryz.results107 _ _ (w.heap.size) _ _ _ _ rfl z9 Tryz.underlying48 rfl rfl) rfl ⟨zX 0 zeroX, rfl, by rw [HRS.out]; rfl, o9, ⟨Nat.zero_le _, zeroX_few⟩, ⟨by decide, by decide, by decide, by decide, by decide⟩, by rw [HRS.out]; exact r9, t9⟩
  have HB1 : Hid (PT = (zC ((K : Nat) : Int) noV, s1)) := hide (by rw [HB.out, if_neg hk2, if_neg hk3])
  have hk01 : K = 0 ∨ K = 1 := by omega
  clear HB hk2 hk3
  rcases hk01 with rfl | rfl
  · have G1 := G 0
    clear G
    have HM : Hid (Cx.m ((zX 0 zeroX)) = PT.1) := hide (by rw [HB1.out]; rfl)
    have HT : Hid (PT.2 = s1) := hide (by rw [HB1.out])
    have hsm : CSmall (zX 0 zeroX) := ⟨Nat.zero_le _, zeroX_few⟩
    have hnm : CNums (zX 0 zeroX) := ⟨by decide, by decide, by decide, by decide, by decide⟩
    have hdl : 0 = (Cx.m (zX 0 zeroX)).d.length := rfl
    obtain ⟨tc, htc⟩ := bool_of (ButLen (Cx.m (zX 0 zeroX)))
    have ck : Calls Tryz.prog 121 #[.agg #[.int .i64 0, .int .u16 0, .int .u32 0, .int .u64 0, .int .u64 0, .slice none 0 0, .int .u64 0, .slice none 0 0, .slice none 0 0, .slice none 0 0]] (w2.alloc (.cells #[.int .i64 0, .int .u16 0, .int .u32 0, .int .u64 0, .int .u64 0, .slice none 0 0, .int .u64 0, .slice none 0 0, .slice none 0 0, .slice none 0 0] 48)) (fun e w' => e = .returned (.int .i64 (ckE tc 0)) ∧ Below (w2.alloc (.cells #[.int .i64 0, .int .u16 0, .int .u32 0, .int .u64 0, .int .u64 0, .slice none 0 0, .int .u64 0, .slice none 0 0, .slice none 0 0, .slice none 0 0] 48)).heap.size (w2.alloc (.cells #[.int .i64 0, .int .u16 0, .int .u32 0, .int .u64 0, .int .u64 0, .slice none 0 0, .int .u64 0, .slice none 0 0, .slice none 0 0, .slice none 0 0] 48)) w') := check9_any (zX 0 zeroX) _ _ tc (G1.own.in_ hnm) hsm.v (Nat.le_refl _) htc
    have hmay := ckE_may htc
    rw [← hdl] at hmay
    obtain ⟨r, hr⟩ : ∃ r, r = ckE tc 0 := ⟨_, rfl⟩
    rw [← hr] at ck hmay
    have q0 : (w2.alloc (.cells #[.int .i64 0, .int .u16 0, .int .u32 0, .int .u64 0, .int .u64 0, .slice none 0 0, .int .u64 0, .slice none 0 0, .slice none 0 0, .slice none 0 0] 48)).cell? ⟨w2.heap.size, 0, none⟩ = some (.int .i64 0) := G1.v.cells.1
    have q1 : (w2.alloc (.cells #[.int .i64 0, .int .u16 0, .int .u32 0, .int .u64 0, .int .u64 0, .slice none 0 0, .int .u64 0, .slice none 0 0, .slice none 0 0, .slice none 0 0] 48)).cell? ⟨w2.heap.size, 1, none⟩ = some (.int .u16 0) := G1.v.cells.2.1
    have q2 : (w2.alloc (.cells #[.int .i64 0, .int .u16 0, .int .u32 0, .int .u64 0, .int .u64 0, .slice none 0 0, .int .u64 0, .slice none 0 0, .slice none 0 0, .slice none 0 0] 48)).cell? ⟨w2.heap.size, 2, none⟩ = some (.int .u32 0) := G1.v.cells.2.2.1
    have q3 : (w2.alloc (.cells #[.int .i64 0, .int .u16 0, .int .u32 0, .int .u64 0, .int .u64 0, .slice none 0 0, .int .u64 0, .slice none 0 0, .slice none 0 0, .slice none 0 0] 48)).cell? ⟨w2.heap.size, 3, none⟩ = some (.int .u64 0) := G1.v.cells.2.2.2.1
    have q4 : (w2.alloc (.cells #[.int .i64 0, .int .u16 0, .int .u32 0, .int .u64 0, .int .u64 0, .slice none 0 0, .int .u64 0, .slice none 0 0, .slice none 0 0, .slice none 0 0] 48)).cell? ⟨w2.heap.size, 4, none⟩ = some (.int .u64 0) := G1.v.cells.2.2.2.2.1
    have q5 : (w2.alloc (.cells #[.int .i64 0, .int .u16 0, .int .u32 0, .int .u64 0, .int .u64 0, .slice none 0 0, .int .u64 0, .slice none 0 0, .slice none 0 0, .slice none 0 0] 48)).cell? ⟨w2.heap.size, 5, none⟩ = some (.slice none 0 0) := G1.v.cells.2.2.2.2.2.1
    have q6 : (w2.alloc (.cells #[.int .i64 0, .int .u16 0, .int .u32 0, .int .u64 0, .int .u64 0, .slice none 0 0, .int .u64 0, .slice none 0 0, .slice none 0 0, .slice none 0 0] 48)).cell? ⟨w2.heap.size, 6, none⟩ = some (.int .u64 0) := G1.v.cells.2.2.2.2.2.2.1
    have q7 : (w2.alloc (.cells #[.int .i64 0, .int .u16 0, .int .u32 0, .int .u64 0, .int .u64 0, .slice none 0 0, .int .u64 0, .slice none 0 0, .slice none 0 0, .slice none 0 0] 48)).cell? ⟨w2.heap.size, 7, none⟩ = some (.slice none 0 0) := G1.v.cells.2.2.2.2.2.2.2.1
    have q8 : (w2.alloc (.cells #[.int .i64 0, .int .u16 0, .int .u32 0, .int .u64 0, .int .u64 0, .slice none 0 0, .int .u64 0, .slice none 0 0, .slice none 0 0, .slice none 0 0] 48)).cell? ⟨w2.heap.size, 8, none⟩ = some (.slice none 0 0) := G1.v.cells.2.2.2.2.2.2.2.2.1
    have q9 : (w2.alloc (.cells #[.int .i64 0, .int .u16 0, .int .u32 0, .int .u64 0, .int .u64 0, .slice none 0 0, .int .u64 0, .slice none 0 0, .slice none 0 0, .slice none 0 0] 48)).cell? ⟨w2.heap.size, 9, none⟩ = some (.slice none 0 0) := G1.v.cells.2.2.2.2.2.2.2.2.2
    have hgl := G1.v.lt
    have hgo := G1.lo
    have HE := hide (And.intro hsm (And.intro hnm hmay))
    clear htc hmay hr hsm hnm hdl
    by_cases hr0 : r = 0
    · subst hr0
      have hmc := HE.out.2.2.1 rfl
      have HC := hide hmc
      clear hmc
      go_wp2_with fail
      generalize w2.alloc (.cells #[.int .i64 0, .int .u16 0, .int .u32 0, .int .u64 0, .int .u64 0, .slice none 0 0, .int .u64 0, .slice none 0 0, .slice none 0 0, .slice none 0 0] 48) = w8 at *
      refine ck.mono ?_
      rintro e9 w9 ⟨rfl, hb9⟩
      have g9 := G1.read hb (Turn.of_below hb9 b none) (G1.rd.later hb9)
      clear G1 ck q0 q1 q2 q3 q4 q5 q6 q7 q8 q9 hb9 hgl
      by_cases hs0 : s1.t = 0
      · have HRS : Hid (RES = PT) := hide (HRES.out.1 (by rw [HT.out]; exact hs0) (by rw [← HM.out]; exact HC.out))
        have hrd := g9.rd
        rw [hs0] at hrd
        have ce : Calls Tryz.prog 110 #[.pointer (some ⟨b, 0, none⟩)] w9 (fun e w' => e = .returned (.int .i64 0) ∧ w9 = w') := err_any b s1.l 0 w9 hrd
        clear hrd hs0
        have z9 := g9.z.put (zX 0 zeroX)
        have o9 : CxOwn (put10 w9 w.heap.size (zX 0 zeroX)) w.heap.size (zX 0 zeroX) := CxOwn.mono (base := w.heap.size + 1) (CxOwn.far10 (g9.own.mono (Nat.le_succ_of_le g9.lo)) (zX 0 zeroX) (by omega)) (by omega)
        have r9 : RdAt (put10 w9 w.heap.size (zX 0 zeroX)) b s1.l s1.t := rdAt_put10 g9.rd hb (zX 0 zeroX)
        have t9 : Turn w (put10 w9 w.heap.size (zX 0 zeroX)) b none := turn_put10 g9.turn (Nat.le_refl _) (zX 0 zeroX)
        have HFF := hide (And.intro z9 (And.intro o9 (And.intro r9 t9)))
        clear z9 o9 r9 t9
        have j0 : w9.cell? ⟨w.heap.size, 0, none⟩ = some (.int .i64 0) := g9.z.cells.1
        have j1 : w9.cell? ⟨w.heap.size, 1, none⟩ = some (.int .u16 0) := g9.z.cells.2.1
        have j2 : w9.cell? ⟨w.heap.size, 2, none⟩ = some (.int .u32 0) := g9.z.cells.2.2.1
        have j3 : w9.cell? ⟨w.heap.size, 3, none⟩ = some (.int .u64 0) := g9.z.cells.2.2.2.1
        have j4 : w9.cell? ⟨w.heap.size, 4, none⟩ = some (.int .u64 0) := g9.z.cells.2.2.2.2.1
        have j5 : w9.cell? ⟨w.heap.size, 5, none⟩ = some (.slice none 0 0) := g9.z.cells.2.2.2.2.2.1
        have j6 : w9.cell? ⟨w.heap.size, 6, none⟩ = some (.int .u64 0) := g9.z.cells.2.2.2.2.2.2.1
        have j7 : w9.cell? ⟨w.heap.size, 7, none⟩ = some (.slice none 0 0) := g9.z.cells.2.2.2.2.2.2.2.1
        have j8 : w9.cell? ⟨w.heap.size, 8, none⟩ = some (.slice none 0 0) := g9.z.cells.2.2.2.2.2.2.2.2.1
        have j9 : w9.cell? ⟨w.heap.size, 9, none⟩ = some (.slice none 0 0) := g9.z.cells.2.2.2.2.2.2.2.2.2
        have y2 := g9.z.lt
        have x0 := g9.z.fz 0
        have x1 := g9.z.fz 1
        have x2 := g9.z.fz 2
        have x3 := g9.z.fz 3
        have x4 := g9.z.fz 4
        have x50 := g9.z.fz 5
        have x60 := g9.z.fz 6
        have x70 := g9.z.fz 7
        have x8 := g9.z.fz 8
        have x9 := g9.z.fz 9
        have k0 : w9.cell? ⟨w2.heap.size, 0, none⟩ = some (.int .i64 0) := g9.v.cells.1
        have k1 : w9.cell? ⟨w2.heap.size, 1, none⟩ = some (.int .u16 0) := g9.v.cells.2.1
        have k2 : w9.cell? ⟨w2.heap.size, 2, none⟩ = some (.int .u32 0) := g9.v.cells.2.2.1
        have k3 : w9.cell? ⟨w2.heap.size, 3, none⟩ = some (.int .u64 0) := g9.v.cells.2.2.2.1
        have k4 : w9.cell? ⟨w2.heap.size, 4, none⟩ = some (.int .u64 0) := g9.v.cells.2.2.2.2.1
        have k5 : w9.cell? ⟨w2.heap.size, 5, none⟩ = some (.slice none 0 0) := g9.v.cells.2.2.2.2.2.1
        have k6 : w9.cell? ⟨w2.heap.size, 6, none⟩ = some (.int .u64 0) := g9.v.cells.2.2.2.2.2.2.1
        have k7 : w9.cell? ⟨w2.heap.size, 7, none⟩ = some (.slice none 0 0) := g9.v.cells.2.2.2.2.2.2.2.1
        have k8 : w9.cell? ⟨w2.heap.size, 8, none⟩ = some (.slice none 0 0) := g9.v.cells.2.2.2.2.2.2.2.2.1
        have k9 : w9.cell? ⟨w2.heap.size, 9, none⟩ = some (.slice none 0 0) := g9.v.cells.2.2.2.2.2.2.2.2.2
        have y1 := g9.v.lt
        clear g9
        go_wp2_with fail
        refine ce.mono ?_
        rintro e9 w11 ⟨rfl, rfl⟩
        clear ce
        go_wp2
        obtain ⟨z9, o9, r9, t9⟩ := HFF.out
        clear k0 k1 k2 k3 k4 k5 k6 k7 k8 k9 y1
        clear HFF j0 j1 j2 j3 j4 j5 j6 j7 j8 j9 y2 x0 x1 x2 x3 x4 x50 x60 x70 x8 x9
        refine bodyPost_ret (v := .agg #[.int .i64 0, .int .u16 0, .int .u32 0, .int .u64 0, .int .u64 0, .slice none 0 0, .int .u64 0, .slice none 0 0, .slice none 0 0, .slice none 0 0]) (results_cell_row Tryz.results107 _ _ (w.heap.size) _ _ _ _ rfl z9 Tryz.underlying48 rfl rfl) rfl ⟨(zX 0 zeroX), rfl, by rw [HRS.out]; exact HM.out, o9, HE.out.1, HE.out.2.1, by rw [HRS.out, HT.out]; exact r9, t9⟩
      · have HRS : Hid (RES = (zC 0 noV, s1)) := hide (by have := HRES.out.2.2 (by rw [HT.out]; exact hs0); rw [this, HT.out])
        have x5 : ((s1.t : Int) != 0) = true := by simp only [bne_iff_ne, ne_eq]; omega
        have x6 : ¬ ((s1.t : Int) = 0) := by omega
        have ce := err_any b s1.l s1.t w9 g9.rd
        clear hs0
        have z9 := g9.z.put (zX 0 zeroX)
        have o9 : CxOwn (put10 w9 w.heap.size (zX 0 zeroX)) w.heap.size (zX 0 zeroX) := CxOwn.mono (base := w.heap.size + 1) (CxOwn.far10 (y := zX 0 zeroX) ⟨OwnB.nil_ _ _, zeroX_own _ _⟩ (zX 0 zeroX) (by omega)) (by omega)
        have r9 : RdAt (put10 w9 w.heap.size (zX 0 zeroX)) b s1.l s1.t := rdAt_put10 g9.rd hb (zX 0 zeroX)
        have t9 : Turn w (put10 w9 w.heap.size (zX 0 zeroX)) b none := turn_put10 g9.turn (Nat.le_refl _) (zX 0 zeroX)
        have HFF := hide (And.intro z9 (And.intro o9 (And.intro r9 t9)))
        clear z9 o9 r9 t9
        have j0 : w9.cell? ⟨w.heap.size, 0, none⟩ = some (.int .i64 0) := g9.z.cells.1
        have j1 : w9.cell? ⟨w.heap.size, 1, none⟩ = some (.int .u16 0) := g9.z.cells.2.1
        have j2 : w9.cell? ⟨w.heap.size, 2, none⟩ = some (.int .u32 0) := g9.z.cells.2.2.1
        have j3 : w9.cell? ⟨w.heap.size, 3, none⟩ = some (.int .u64 0) := g9.z.cells.2.2.2.1
        have j4 : w9.cell? ⟨w.heap.size, 4, none⟩ = some (.int .u64 0) := g9.z.cells.2.2.2.2.1
        have j5 : w9.cell? ⟨w.heap.size, 5, none⟩ = some (.slice none 0 0) := g9.z.cells.2.2.2.2.2.1
        have j6 : w9.cell? ⟨w.heap.size, 6, none⟩ = some (.int .u64 0) := g9.z.cells.2.2.2.2.2.2.1
        have j7 : w9.cell? ⟨w.heap.size, 7, none⟩ = some (.slice none 0 0) := g9.z.cells.2.2.2.2.2.2.2.1
        have j8 : w9.cell? ⟨w.heap.size, 8, none⟩ = some (.slice none 0 0) := g9.z.cells.2.2.2.2.2.2.2.2.1
        have j9 : w9.cell? ⟨w.heap.size, 9, none⟩ = some (.slice none 0 0) := g9.z.cells.2.2.2.2.2.2.2.2.2
        have y2 := g9.z.lt
        have x0 := g9.z.fz 0
        have x1 := g9.z.fz 1
        have x2 := g9.z.fz 2
        have x3 := g9.z.fz 3
        have x4 := g9.z.fz 4
        have x50 := g9.z.fz 5
        have x60 := g9.z.fz 6
        have x70 := g9.z.fz 7
        have x8 := g9.z.fz 8
        have x9 := g9.z.fz 9
        clear g9
        go_wp2_with fail
        refine ce.mono ?_
        rintro e9 w11 ⟨rfl, rfl⟩
        clear ce
        go_wp2
        obtain ⟨z9, o9, r9, t9⟩ := HFF.out
        clear HFF j0 j1 j2 j3 j4 j5 j6 j7 j8 j9 y2 x0 x1 x2 x3 x4 x50 x60 x70 x8 x9
        refine bodyPost_ret (v := .agg #[.int .i64 0, .int .u16 0, .int .u32 0, .int .u64 0, .int .u64 0, .slice none 0 0, .int .u64 0, .slice none 0 0, .slice none 0 0, .slice none 0 0]) (results_cell_row Tryz.results107 _ _ (w.heap.size) _ _ _ _ rfl z9 Tryz.underlying48 rfl rfl) rfl ⟨zX 0 zeroX, rfl, by rw [HRS.out]; rfl, o9, ⟨Nat.zero_le _, zeroX_few⟩, ⟨by decide, by decide, by decide, by decide, by decide⟩, by rw [HRS.out]; exact r9, t9⟩
    · have x7 : (r != 0) = true := by rw [bne_iff_ne]; exact hr0
      go_wp2_with fail
      generalize w2.alloc (.cells #[.int .i64 0, .int .u16 0, .int .u32 0, .int .u64 0, .int .u64 0, .slice none 0 0, .int .u64 0, .slice none 0 0, .slice none 0 0, .slice none 0 0] 48) = w8 at *
      refine ck.mono ?_
      rintro e9 w9 ⟨rfl, hb9⟩
      have g9 := G1.read hb (Turn.of_below hb9 b none) (G1.rd.later hb9)
      clear G1 ck q0 q1 q2 q3 q4 q5 q6 q7 q8 q9 hb9 hgl
      by_cases hs0 : s1.t = 0
      · have HRS : Hid (RES = (zC 0 noV, ⟨s1.l, 5⟩)) := hide (by have := HRES.out.2.1 (by rw [HT.out]; exact hs0) (by rw [← HM.out]; exact fun h => hr0 (HE.out.2.2.2 h)); rw [this, HT.out])
        have hrd := g9.rd
        rw [hs0] at hrd
        have cs : Calls Tryz.prog 161 #[.pointer (some ⟨b, 0, none⟩), .int .i64 5] w9 (ReadsP w9 b (.tuple #[]) s1.l 5) := stop_first b s1.l 5 w9 hrd
        clear hrd hs0
        go_wp2_with fail
        refine cs.mono ?_
        rintro e9 w10 ⟨rfl, h10, ht10⟩
        have g10 := g9.read (s' := ⟨s1.l, 5⟩) hb ht10 h10
        have ce : Calls Tryz.prog 110 #[.pointer (some ⟨b, 0, none⟩)] w10 (fun e w' => e = .returned (.int .i64 5) ∧ w10 = w') := err_any b s1.l 5 w10 h10
        clear cs h10 ht10 g9
        have z9 := g10.z.put (zX 0 zeroX)
        have o9 : CxOwn (put10 w10 w.heap.size (zX 0 zeroX)) w.heap.size (zX 0 zeroX) := CxOwn.mono (base := w.heap.size + 1) (CxOwn.far10 (y := zX 0 zeroX) ⟨OwnB.nil_ _ _, zeroX_own _ _⟩ (zX 0 zeroX) (by omega)) (by omega)
        have r9 : RdAt (put10 w10 w.heap.size (zX 0 zeroX)) b (⟨s1.l, 5⟩ : RS).l (⟨s1.l, 5⟩ : RS).t := rdAt_put10 g10.rd hb (zX 0 zeroX)
        have t9 : Turn w (put10 w10 w.heap.size (zX 0 zeroX)) b none := turn_put10 g10.turn (Nat.le_refl _) (zX 0 zeroX)
        have HFF := hide (And.intro z9 (And.intro o9 (And.intro r9 t9)))
        clear z9 o9 r9 t9
        have j0 : w10.cell? ⟨w.heap.size, 0, none⟩ = some (.int .i64 0) := g10.z.cells.1
        have j1 : w10.cell? ⟨w.heap.size, 1, none⟩ = some (.int .u16 0) := g10.z.cells.2.1
        have j2 : w10.cell? ⟨w.heap.size, 2, none⟩ = some (.int .u32 0) := g10.z.cells.2.2.1
        have j3 : w10.cell? ⟨w.heap.size, 3, none⟩ = some (.int .u64 0) := g10.z.cells.2.2.2.1
        have j4 : w10.cell? ⟨w.heap.size, 4, none⟩ = some (.int .u64 0) := g10.z.cells.2.2.2.2.1
        have j5 : w10.cell? ⟨w.heap.size, 5, none⟩ = some (.slice none 0 0) := g10.z.cells.2.2.2.2.2.1
        have j6 : w10.cell? ⟨w.heap.size, 6, none⟩ = some (.int .u64 0) := g10.z.cells.2.2.2.2.2.2.1
        have j7 : w10.cell? ⟨w.heap.size, 7, none⟩ = some (.slice none 0 0) := g10.z.cells.2.2.2.2.2.2.2.1
        have j8 : w10.cell? ⟨w.heap.size, 8, none⟩ = some (.slice none 0 0) := g10.z.cells.2.2.2.2.2.2.2.2.1
        have j9 : w10.cell? ⟨w.heap.size, 9, none⟩ = some (.slice none 0 0) := g10.z.cells.2.2.2.2.2.2.2.2.2
        have y2 := g10.z.lt
        have x0 := g10.z.fz 0
        have x1 := g10.z.fz 1
        have x2 := g10.z.fz 2
        have x3 := g10.z.fz 3
        have x4 := g10.z.fz 4
        have x50 := g10.z.fz 5
        have x60 := g10.z.fz 6
        have x70 := g10.z.fz 7
        have x8 := g10.z.fz 8
        have x9 := g10.z.fz 9
        clear g10
        go_wp2_with fail
        refine ce.mono ?_
        rintro e9 w11 ⟨rfl, rfl⟩
        clear ce
        go_wp2
        obtain ⟨z9, o9, r9, t9⟩ := HFF.out
        clear HFF j0 j1 j2 j3 j4 j5 j6 j7 j8 j9 y2 x0 x1 x2 x3 x4 x50 x60 x70 x8 x9
        refine bodyPost_ret (v := .agg #[.int .i64 0, .int .u16 0, .int .u32 0, .int .u64 0, .int .u64 0, .slice none 0 0, .int .u64 0, .slice none 0 0, .slice none 0 0, .slice none 0 0]) (results_cell_row Tryz.results107 _ _ (w.heap.size) _ _ _ _ rfl z9 Tryz.underlying48 rfl rfl) rfl ⟨zX 0 zeroX, rfl, by rw [HRS.out]; rfl, o9, ⟨Nat.zero_le _, zeroX_few⟩, ⟨by decide, by decide, by decide, by decide, by decide⟩, by rw [HRS.out]; exact r9, t9⟩
      · have HRS : Hid (RES = (zC 0 noV, s1)) := hide (by have := HRES.out.2.2 (by rw [HT.out]; exact hs0); rw [this, HT.out])
        have x5 : ((s1.t : Int) != 0) = true := by simp only [bne_iff_ne, ne_eq]; omega
        have x6 : ¬ ((s1.t : Int) = 0) := by omega
        have cs : Calls Tryz.prog 161 #[.pointer (some ⟨b, 0, none⟩), .int .i64 5] w9 (ReadsP w9 b (.tuple #[]) s1.l s1.t) := stop_more b s1.l s1.t 5 w9 g9.rd hs0
        clear hs0
        go_wp2_with fail
        refine cs.mono ?_
        rintro e9 w10 ⟨rfl, h10, ht10⟩
        have g10 := g9.read (s' := s1) hb ht10 h10
        have ce := err_any b s1.l s1.t w10 h10
        clear cs h10 ht10 g9
        have z9 := g10.z.put (zX 0 zeroX)
        have o9 : CxOwn (put10 w10 w.heap.size (zX 0 zeroX)) w.heap.size (zX 0 zeroX) := CxOwn.mono (base := w.heap.size + 1) (CxOwn.far10 (y := zX 0 zeroX) ⟨OwnB.nil_ _ _, zeroX_own _ _⟩ (zX 0 zeroX) (by omega)) (by omega)
        have r9 : RdAt (put10 w10 w.heap.size (zX 0 zeroX)) b s1.l s1.t := rdAt_put10 g10.rd hb (zX 0 zeroX)
        have t9 : Turn w (put10 w10 w.heap.size (zX 0 zeroX)) b none := turn_put10 g10.turn (Nat.le_refl _) (zX 0 zeroX)
        have HFF := hide (And.intro z9 (And.intro o9 (And.intro r9 t9)))
        clear z9 o9 r9 t9
        have j0 : w10.cell? ⟨w.heap.size, 0, none⟩ = some (.int .i64 0) := g10.z.cells.1
        have j1 : w10.cell? ⟨w.heap.size, 1, none⟩ = some (.int .u16 0) := g10.z.cells.2.1
        have j2 : w10.cell? ⟨w.heap.size, 2, none⟩ = some (.int .u32 0) := g10.z.cells.2.2.1
        have j3 : w10.cell? ⟨w.heap.size, 3, none⟩ = some (.int .u64 0) := g10.z.cells.2.2.2.1
        have j4 : w10.cell? ⟨w.heap.size, 4, none⟩ = some (.int .u64 0) := g10.z.cells.2.2.2.2.1
        have j5 : w10.cell? ⟨w.heap.size, 5, none⟩ = some (.slice none 0 0) := g10.z.cells.2.2.2.2.2.1
        have j6 : w10.cell? ⟨w.heap.size, 6, none⟩ = some (.int .u64 0) := g10.z.cells.2.2.2.2.2.2.1
        have j7 : w10.cell? ⟨w.heap.size, 7, none⟩ = some (.slice none 0 0) := g10.z.cells.2.2.2.2.2.2.2.1
        have j8 : w10.cell? ⟨w.heap.size, 8, none⟩ = some (.slice none 0 0) := g10.z.cells.2.2.2.2.2.2.2.2.1
        have j9 : w10.cell? ⟨w.heap.size, 9, none⟩ = some (.slice none 0 0) := g10.z.cells.2.2.2.2.2.2.2.2.2
        have y2 := g10.z.lt
        have x0 := g10.z.fz 0
        have x1 := g10.z.fz 1
        have x2 := g10.z.fz 2
        have x3 := g10.z.fz 3
        have x4 := g10.z.fz 4
        have x50 := g10.z.fz 5
        have x60 := g10.z.fz 6
        have x70 := g10.z.fz 7
        have x8 := g10.z.fz 8
        have x9 := g10.z.fz 9
        clear g10
        go_wp2_with fail
        refine ce.mono ?_
        rintro e9 w11 ⟨rfl, rfl⟩
        clear ce
        go_wp2
        obtain ⟨z9, o9, r9, t9⟩ := HFF.out
        clear HFF j0 j1 j2 j3 j4 j5 j6 j7 j8 j9 y2 x0 x1 x2 x3 x4 x50 x60 x70 x8 x9
        refine bodyPost_ret (v := .agg #[.int .i64 0, .int .u16 0, .int .u32 0, .int .u64 0, .int .u64 0, .slice none 0 0, .int .u64 0, .slice none 0 0, .slice none 0 0, .slice none 0 0]) (results_cell_row Tryz.results107 _ _ (w.heap.size) _ _ _ _ rfl z9 Tryz.underlying48 rfl rfl) rfl ⟨zX 0 zeroX, rfl, by rw [HRS.out]; rfl, o9, ⟨Nat.zero_le _, zeroX_few⟩, ⟨by decide, by decide, by decide, by decide, by decide⟩, by rw [HRS.out]; exact r9, t9⟩
  · have G1 := G 1
    clear G
    have HM : Hid (Cx.m ((zX 1 zeroX)) = PT.1) := hide (by rw [HB1.out]; rfl)
    have HT : Hid (PT.2 = s1) := hide (by rw [HB1.out])
    have hsm : CSmall (zX 1 zeroX) := ⟨Nat.zero_le _, zeroX_few⟩
    have hnm : CNums (zX 1 zeroX) := ⟨by decide, by decide, by decide, by decide, by decide⟩
    have hdl : 0 = (Cx.m (zX 1 zeroX)).d.length := rfl
    obtain ⟨tc, htc⟩ := bool_of (ButLen (Cx.m (zX 1 zeroX)))
    have ck : Calls Tryz.prog 121 #[.agg #[.int .i64 1, .int .u16 0, .int .u32 0, .int .u64 0, .int .u64 0, .slice none 0 0, .int .u64 0, .slice none 0 0, .slice none 0 0, .slice none 0 0]] (w2.alloc (.cells #[.int .i64 1, .int .u16 0, .int .u32 0, .int .u64 0, .int .u64 0, .slice none 0 0, .int .u64 0, .slice none 0 0, .slice none 0 0, .slice none 0 0] 48)) (fun e w' => e = .returned (.int .i64 (ckE tc 0)) ∧ Below (w2.alloc (.cells #[.int .i64 1, .int .u16 0, .int .u32 0, .int .u64 0, .int .u64 0, .slice none 0 0, .int .u64 0, .slice none 0 0, .slice none 0 0, .slice none 0 0] 48)).heap.size (w2.alloc (.cells #[.int .i64 1, .int .u16 0, .int .u32 0, .int .u64 0, .int .u64 0, .slice none 0 0, .int .u64 0, .slice none 0 0, .slice none 0 0, .slice none 0 0] 48)) w') := check9_any (zX 1 zeroX) _ _ tc (G1.own.in_ hnm) hsm.v (Nat.le_refl _) htc
    have hmay := ckE_may htc
    rw [← hdl] at hmay
    obtain ⟨r, hr⟩ : ∃ r, r = ckE tc 0 := ⟨_, rfl⟩
    rw [← hr] at ck hmay
    have q0 : (w2.alloc (.cells #[.int .i64 1, .int .u16 0, .int .u32 0, .int .u64 0, .int .u64 0, .slice none 0 0, .int .u64 0, .slice none 0 0, .slice none 0 0, .slice none 0 0] 48)).cell? ⟨w2.heap.size, 0, none⟩ = some (.int .i64 1) := G1.v.cells.1
    have q1 : (w2.alloc (.cells #[.int .i64 1, .int .u16 0, .int .u32 0, .int .u64 0, .int .u64 0, .slice none 0 0, .int .u64 0, .slice none 0 0, .slice none 0 0, .slice none 0 0] 48)).cell? ⟨w2.heap.size, 1, none⟩ = some (.int .u16 0) := G1.v.cells.2.1
    have q2 : (w2.alloc (.cells #[.int .i64 1, .int .u16 0, .int .u32 0, .int .u64 0, .int .u64 0, .slice none 0 0, .int .u64 0, .slice none 0 0, .slice none 0 0, .slice none 0 0] 48)).cell? ⟨w2.heap.size, 2, none⟩ = some (.int .u32 0) := G1.v.cells.2.2.1
    have q3 : (w2.alloc (.cells #[.int .i64 1, .int .u16 0, .int .u32 0, .int .u64 0, .int .u64 0, .slice none 0 0, .int .u64 0, .slice none 0 0, .slice none 0 0, .slice none 0 0] 48)).cell? ⟨w2.heap.size, 3, none⟩ = some (.int .u64 0) := G1.v.cells.2.2.2.1
    have q4 : (w2.alloc (.cells #[.int .i64 1, .int .u16 0, .int .u32 0, .int .u64 0, .int .u64 0, .slice none 0 0, .int .u64 0, .slice none 0 0, .slice none 0 0, .slice none 0 0] 48)).cell? ⟨w2.heap.size, 4, none⟩ = some (.int .u64 0) := G1.v.cells.2.2.2.2.1
    have q5 : (w2.alloc (.cells #[.int .i64 1, .int .u16 0, .int .u32 0, .int .u64 0, .int .u64 0, .slice none 0 0, .int .u64 0, .slice none 0 0, .slice none 0 0, .slice none 0 0] 48)).cell? ⟨w2.heap.size, 5, none⟩ = some (.slice none 0 0) := G1.v.cells.2.2.2.2.2.1
    have q6 : (w2.alloc (.cells #[.int .i64 1, .int .u16 0, .int .u32 0, .int .u64 0, .int .u64 0, .slice none 0 0, .int .u64 0, .slice none 0 0, .slice none 0 0, .slice none 0 0] 48)).cell? ⟨w2.heap.size, 6, none⟩ = some (.int .u64 0) := G1.v.cells.2.2.2.2.2.2.1
    have q7 : (w2.alloc (.cells #[.int .i64 1, .int .u16 0, .int .u32 0, .int .u64 0, .int .u64 0, .slice none 0 0, .int .u64 0, .slice none 0 0, .slice none 0 0, .slice none 0 0] 48)).cell? ⟨w2.heap.size, 7, none⟩ = some (.slice none 0 0) := G1.v.cells.2.2.2.2.2.2.2.1
    have q8 : (w2.alloc (.cells #[.int .i64 1, .int .u16 0, .int .u32 0, .int .u64 0, .int .u64 0, .slice none 0 0, .int .u64 0, .slice none 0 0, .slice none 0 0, .slice none 0 0] 48)).cell? ⟨w2.heap.size, 8, none⟩ = some (.slice none 0 0) := G1.v.cells.2.2.2.2.2.2.2.2.1
    have q9 : (w2.alloc (.cells #[.int .i64 1, .int .u16 0, .int .u32 0, .int .u64 0, .int .u64 0, .slice none 0 0, .int .u64 0, .slice none 0 0, .slice none 0 0, .slice none 0 0] 48)).cell? ⟨w2.heap.size, 9, none⟩ = some (.slice none 0 0) := G1.v.cells.2.2.2.2.2.2.2.2.2
    have hgl := G1.v.lt
    have hgo := G1.lo
    have HE := hide (And.intro hsm (And.intro hnm hmay))
    clear htc hmay hr hsm hnm hdl
    by_cases hr0 : r = 0
    · subst hr0
      have hmc := HE.out.2.2.1 rfl
      have HC := hide hmc
      clear hmc
      go_wp2_with fail
      generalize w2.alloc (.cells #[.int .i64 1, .int .u16 0, .int .u32 0, .int .u64 0, .int .u64 0, .slice none 0 0, .int .u64 0, .slice none 0 0, .slice none 0 0, .slice none 0 0] 48) = w8 at *
      refine ck.mono ?_
      rintro e9 w9 ⟨rfl, hb9⟩
      have g9 := G1.read hb (Turn.of_below hb9 b none) (G1.rd.later hb9)
      clear G1 ck q0 q1 q2 q3 q4 q5 q6 q7 q8 q9 hb9 hgl
      by_cases hs0 : s1.t = 0
      · have HRS : Hid (RES = PT) := hide (HRES.out.1 (by rw [HT.out]; exact hs0) (by rw [← HM.out]; exact HC.out))
        have hrd := g9.rd
        rw [hs0] at hrd
        have ce : Calls Tryz.prog 110 #[.pointer (some ⟨b, 0, none⟩)] w9 (fun e w' => e = .returned (.int .i64 0) ∧ w9 = w') := err_any b s1.l 0 w9 hrd
        clear hrd hs0
        have z9 := g9.z.put (zX 1 zeroX)
        have o9 : CxOwn (put10 w9 w.heap.size (zX 1 zeroX)) w.heap.size (zX 1 zeroX) := CxOwn.mono (base := w.heap.size + 1) (CxOwn.far10 (g9.own.mono (Nat.le_succ_of_le g9.lo)) (zX 1 zeroX) (by omega)) (by omega)
        have r9 : RdAt (put10 w9 w.heap.size (zX 1 zeroX)) b s1.l s1.t := rdAt_put10 g9.rd hb (zX 1 zeroX)
        have t9 : Turn w (put10 w9 w.heap.size (zX 1 zeroX)) b none := turn_put10 g9.turn (Nat.le_refl _) (zX 1 zeroX)
        have HFF := hide (And.intro z9 (And.intro o9 (And.intro r9 t9)))
        clear z9 o9 r9 t9
        have j0 : w9.cell? ⟨w.heap.size, 0, none⟩ = some (.int .i64 0) := g9.z.cells.1
        have j1 : w9.cell? ⟨w.heap.size, 1, none⟩ = some (.int .u16 0) := g9.z.cells.2.1
        have j2 : w9.cell? ⟨w.heap.size, 2, none⟩ = some (.int .u32 0) := g9.z.cells.2.2.1
        have j3 : w9.cell? ⟨w.heap.size, 3, none⟩ = some (.int .u64 0) := g9.z.cells.2.2.2.1
        have j4 : w9.cell? ⟨w.heap.size, 4, none⟩ = some (.int .u64 0) := g9.z.cells.2.2.2.2.1
        have j5 : w9.cell? ⟨w.heap.size, 5, none⟩ = some (.slice none 0 0) := g9.z.cells.2.2.2.2.2.1
        have j6 : w9.cell? ⟨w.heap.size, 6, none⟩ = some (.int .u64 0) := g9.z.cells.2.2.2.2.2.2.1
        have j7 : w9.cell? ⟨w.heap.size, 7, none⟩ = some (.slice none 0 0) := g9.z.cells.2.2.2.2.2.2.2.1
        have j8 : w9.cell? ⟨w.heap.size, 8, none⟩ = some (.slice none 0 0) := g9.z.cells.2.2.2.2.2.2.2.2.1
        have j9 : w9.cell? ⟨w.heap.size, 9, none⟩ = some (.slice none 0 0) := g9.z.cells.2.2.2.2.2.2.2.2.2
        have y2 := g9.z.lt
        have x0 := g9.z.fz 0
        have x1 := g9.z.fz 1
        have x2 := g9.z.fz 2
        have x3 := g9.z.fz 3
        have x4 := g9.z.fz 4
        have x50 := g9.z.fz 5
        have x60 := g9.z.fz 6
        have x70 := g9.z.fz 7
        have x8 := g9.z.fz 8
        have x9 := g9.z.fz 9
        have k0 : w9.cell? ⟨w2.heap.size, 0, none⟩ = some (.int .i64 1) := g9.v.cells.1
        have k1 : w9.cell? ⟨w2.heap.size, 1, none⟩ = some (.int .u16 0) := g9.v.cells.2.1
        have k2 : w9.cell? ⟨w2.heap.size, 2, none⟩ = some (.int .u32 0) := g9.v.cells.2.2.1
        have k3 : w9.cell? ⟨w2.heap.size, 3, none⟩ = some (.int .u64 0) := g9.v.cells.2.2.2.1
        have k4 : w9.cell? ⟨w2.heap.size, 4, none⟩ = some (.int .u64 0) := g9.v.cells.2.2.2.2.1
        have k5 : w9.cell? ⟨w2.heap.size, 5, none⟩ = some (.slice none 0 0) := g9.v.cells.2.2.2.2.2.1
        have k6 : w9.cell? ⟨w2.heap.size, 6, none⟩ = some (.int .u64 0) := g9.v.cells.2.2.2.2.2.2.1
        have k7 : w9.cell? ⟨w2.heap.size, 7, none⟩ = some (.slice none 0 0) := g9.v.cells.2.2.2.2.2.2.2.1
        have k8 : w9.cell? ⟨w2.heap.size, 8, none⟩ = some (.slice none 0 0) := g9.v.cells.2.2.2.2.2.2.2.2.1
        have k9 : w9.cell? ⟨w2.heap.size, 9, none⟩ = some (.slice none 0 0) := g9.v.cells.2.2.2.2.2.2.2.2.2
        have y1 := g9.v.lt
        clear g9
        go_wp2_with fail
        refine ce.mono ?_
        rintro e9 w11 ⟨rfl, rfl⟩
        clear ce
        go_wp2
        obtain ⟨z9, o9, r9, t9⟩ := HFF.out
        clear k0 k1 k2 k3 k4 k5 k6 k7 k8 k9 y1
        clear HFF j0 j1 j2 j3 j4 j5 j6 j7 j8 j9 y2 x0 x1 x2 x3 x4 x50 x60 x70 x8 x9
        refine bodyPost_ret (v := .agg #[.int .i64 1, .int .u16 0, .int .u32 0, .int .u64 0, .int .u64 0, .slice none 0 0, .int .u64 0, .slice none 0 0, .slice none 0 0, .slice none 0 0]) (results_cell_row Tryz.results107 _ _ (w.heap.size) _ _ _ _ rfl z9 Tryz.underlying48 rfl rfl) rfl ⟨(zX 1 zeroX), rfl, by rw [HRS.out]; exact HM.out, o9, HE.out.1, HE.out.2.1, by rw [HRS.out, HT.out]; exact r9, t9⟩
      · have HRS : Hid (RES = (zC 0 noV, s1)) := hide (by have := HRES.out.2.2 (by rw [HT.out]; exact hs0); rw [this, HT.out])
        have x5 : ((s1.t : Int) != 0) = true := by simp only [bne_iff_ne, ne_eq]; omega
        have x6 : ¬ ((s1.t : Int) = 0) := by omega
        have ce := err_any b s1.l s1.t w9 g9.rd
        clear hs0
        have z9 := g9.z.put (zX 0 zeroX)
        have o9 : CxOwn (put10 w9 w.heap.size (zX 0 zeroX)) w.heap.size (zX 0 zeroX) := CxOwn.mono (base := w.heap.size + 1) (CxOwn.far10 (y := zX 0 zeroX) ⟨OwnB.nil_ _ _, zeroX_own _ _⟩ (zX 0 zeroX) (by omega)) (by omega)
        have r9 : RdAt (put10 w9 w.heap.size (zX 0 zeroX)) b s1.l s1.t := rdAt_put10 g9.rd hb (zX 0 zeroX)
        have t9 : Turn w (put10 w9 w.heap.size (zX 0 zeroX)) b none := turn_put10 g9.turn (Nat.le_refl _) (zX 0 zeroX)
        have HFF := hide (And.intro z9 (And.intro o9 (And.intro r9 t9)))
        clear z9 o9 r9 t9
        have j0 : w9.cell? ⟨w.heap.size, 0, none⟩ = some (.int .i64 0) := g9.z.cells.1
        have j1 : w9.cell? ⟨w.heap.size, 1, none⟩ = some (.int .u16 0) := g9.z.cells.2.1
        have j2 : w9.cell? ⟨w.heap.size, 2, none⟩ = some (.int .u32 0) := g9.z.cells.2.2.1
        have j3 : w9.cell? ⟨w.heap.size, 3, none⟩ = some (.int .u64 0) := g9.z.cells.2.2.2.1
        have j4 : w9.cell? ⟨w.heap.size, 4, none⟩ = some (.int .u64 0) := g9.z.cells.2.2.2.2.1
        have j5 : w9.cell? ⟨w.heap.size, 5, none⟩ = some (.slice none 0 0) := g9.z.cells.2.2.2.2.2.1
        have j6 : w9.cell? ⟨w.heap.size, 6, none⟩ = some (.int .u64 0) := g9.z.cells.2.2.2.2.2.2.1
        have j7 : w9.cell? ⟨w.heap.size, 7, none⟩ = some (.slice none 0 0) := g9.z.cells.2.2.2.2.2.2.2.1
        have j8 : w9.cell? ⟨w.heap.size, 8, none⟩ = some (.slice none 0 0) := g9.z.cells.2.2.2.2.2.2.2.2.1
        have j9 : w9.cell? ⟨w.heap.size, 9, none⟩ = some (.slice none 0 0) := g9.z.cells.2.2.2.2.2.2.2.2.2
        have y2 := g9.z.lt
        have x0 := g9.z.fz 0
        have x1 := g9.z.fz 1
        have x2 := g9.z.fz 2
        have x3 := g9.z.fz 3
        have x4 := g9.z.fz 4
        have x50 := g9.z.fz 5
        have x60 := g9.z.fz 6
        have x70 := g9.z.fz 7
        have x8 := g9.z.fz 8
        have x9 := g9.z.fz 9
        clear g9
        go_wp2_with fail
        refine ce.mono ?_
        rintro e9 w11 ⟨rfl, rfl⟩
        clear ce
        go_wp2
        obtain ⟨z9, o9, r9, t9⟩ := HFF.out
        clear HFF j0 j1 j2 j3 j4 j5 j6 j7 j8 j9 y2 x0 x1 x2 x3 x4 x50 x60 x70 x8 x9
        refine bodyPost_ret (v := .agg #[.int .i64 0, .int .u16 0, .int .u32 0, .int .u64 0, .int .u64 0, .slice none 0 0, .int .u64 0, .slice none 0 0, .slice none 0 0, .slice none 0 0]) (results_cell_row Tryz.results107 _ _ (w.heap.size) _ _ _ _ rfl z9 Tryz.underlying48 rfl rfl) rfl ⟨zX 0 zeroX, rfl, by rw [HRS.out]; rfl, o9, ⟨Nat.zero_le _, zeroX_few⟩, ⟨by decide, by decide, by decide, by decide, by decide⟩, by rw [HRS.out]; exact r9, t9⟩
    · have x7 : (r != 0) = true := by rw [bne_iff_ne]; exact hr0
      go_wp2_with fail
      generalize w2.alloc (.cells #[.int .i64 1, .int .u16 0, .int .u32 0, .int .u64 0, .int .u64 0, .slice none 0 0, .int .u64 0, .slice none 0 0, .slice none 0 0, .slice none 0 0] 48) = w8 at *
      refine ck.mono ?_
      rintro e9 w9 ⟨rfl, hb9⟩
      have g9 := G1.read hb (Turn.of_below hb9 b none) (G1.rd.later hb9)
      clear G1 ck q0 q1 q2 q3 q4 q5 q6 q7 q8 q9 hb9 hgl
      by_cases hs0 : s1.t = 0
      · have HRS : Hid (RES = (zC 0 noV, ⟨s1.l, 5⟩)) := hide (by have := HRES.out.2.1 (by rw [HT.out]; exact hs0) (by rw [← HM.out]; exact fun h => hr0 (HE.out.2.2.2 h)); rw [this, HT.out])
        have hrd := g9.rd
        rw [hs0] at hrd
        have cs : Calls Tryz.prog 161 #[.pointer (some ⟨b, 0, none⟩), .int .i64 5] w9 (ReadsP w9 b (.tuple #[]) s1.l 5) := stop_first b s1.l 5 w9 hrd
        clear hrd hs0
        go_wp2_with fail
        refine cs.mono ?_
        rintro e9 w10 ⟨rfl, h10, ht10⟩
        have g10 := g9.read (s' := ⟨s1.l, 5⟩) hb ht10 h10
        have ce : Calls Tryz.prog 110 #[.pointer (some ⟨b, 0, none⟩)] w10 (fun e w' => e = .returned (.int .i64 5) ∧ w10 = w') := err_any b s1.l 5 w10 h10
        clear cs h10 ht10 g9
        have z9 := g10.z.put (zX 0 zeroX)
        have o9 : CxOwn (put10 w10 w.heap.size (zX 0 zeroX)) w.heap.size (zX 0 zeroX) := CxOwn.mono (base := w.heap.size + 1) (CxOwn.far10 (y := zX 0 zeroX) ⟨OwnB.nil_ _ _, zeroX_own _ _⟩ (zX 0 zeroX) (by omega)) (by omega)
        have r9 : RdAt (put10 w10 w.heap.size (zX 0 zeroX)) b (⟨s1.l, 5⟩ : RS).l (⟨s1.l, 5⟩ : RS).t := rdAt_put10 g10.rd hb (zX 0 zeroX)
        have t9 : Turn w (put10 w10 w.heap.size (zX 0 zeroX)) b none := turn_put10 g10.turn (Nat.le_refl _) (zX 0 zeroX)
        have HFF := hide (And.intro z9 (And.intro o9 (And.intro r9 t9)))
        clear z9 o9 r9 t9
        have j0 : w10.cell? ⟨w.heap.size, 0, none⟩ = some (.int .i64 0) := g10.z.cells.1
        have j1 : w10.cell? ⟨w.heap.size, 1, none⟩ = some (.int .u16 0) := g10.z.cells.2.1
        have j2 : w10.cell? ⟨w.heap.size, 2, none⟩ = some (.int .u32 0) := g10.z.cells.2.2.1
        have j3 : w10.cell? ⟨w.heap.size, 3, none⟩ = some (.int .u64 0) := g10.z.cells.2.2.2.1
        have j4 : w10.cell? ⟨w.heap.size, 4, none⟩ = some (.int .u64 0) := g10.z.cells.2.2.2.2.1
        have j5 : w10.cell? ⟨w.heap.size, 5, none⟩ = some (.slice none 0 0) := g10.z.cells.2.2.2.2.2.1
        have j6 : w10.cell? ⟨w.heap.size, 6, none⟩ = some (.int .u64 0) := g10.z.cells.2.2.2.2.2.2.1
        have j7 : w10.cell? ⟨w.heap.size, 7, none⟩ = some (.slice none 0 0) := g10.z.cells.2.2.2.2.2.2.2.1
        have j8 : w10.cell? ⟨w.heap.size, 8, none⟩ = some (.slice none 0 0) := g10.z.cells.2.2.2.2.2.2.2.2.1
        have j9 : w10.cell? ⟨w.heap.size, 9, none⟩ = some (.slice none 0 0) := g10.z.cells.2.2.2.2.2.2.2.2.2
        have y2 := g10.z.lt
        have x0 := g10.z.fz 0
        have x1 := g10.z.fz 1
        have x2 := g10.z.fz 2
        have x3 := g10.z.fz 3
        have x4 := g10.z.fz 4
        have x50 := g10.z.fz 5
        have x60 := g10.z.fz 6
        have x70 := g10.z.fz 7
        have x8 := g10.z.fz 8
        have x9 := g10.z.fz 9
        clear g10
        go_wp2_with fail
        refine ce.mono ?_
        rintro e9 w11 ⟨rfl, rfl⟩
        clear ce
        go_wp2
        obtain ⟨z9, o9, r9, t9⟩ := HFF.out
        clear HFF j0 j1 j2 j3 j4 j5 j6 j7 j8 j9 y2 x0 x1 x2 x3 x4 x50 x60 x70 x8 x9
        refine bodyPost_ret (v := .agg #[.int .i64 0, .int .u16 0, .int .u32 0, .int .u64 0, .int .u64 0, .slice none 0 0, .int .u64 0, .slice none 0 0, .slice none 0 0, .slice none 0 0]) (results_cell_row Tryz.results107 _ _ (w.heap.size) _ _ _ _ rfl z9 Tryz.underlying48 rfl rfl) rfl ⟨zX 0 zeroX, rfl, by rw [HRS.out]; rfl, o9, ⟨Nat.zero_le _, zeroX_few⟩, ⟨by decide, by decide, by decide, by decide, by decide⟩, by rw [HRS.out]; exact r9, t9⟩
      · have HRS : Hid (RES = (zC 0 noV, s1)) := hide (by have := HRES.out.2.2 (by rw [HT.out]; exact hs0); rw [this, HT.out])
        have x5 : ((s1.t : Int) != 0) = true := by simp only [bne_iff_ne, ne_eq]; omega
        have x6 : ¬ ((s1.t : Int) = 0) := by omega
        have cs : Calls Tryz.prog 161 #[.pointer (some ⟨b, 0, none⟩), .int .i64 5] w9 (ReadsP w9 b (.tuple #[]) s1.l s1.t) := stop_more b s1.l s1.t 5 w9 g9.rd hs0
        clear hs0
        go_wp2_with fail
        refine cs.mono ?_
        rintro e9 w10 ⟨rfl, h10, ht10⟩
        have g10 := g9.read (s' := s1) hb ht10 h10
        have ce := err_any b s1.l s1.t w10 h10
        clear cs h10 ht10 g9
        have z9 := g10.z.put (zX 0 zeroX)
        have o9 : CxOwn (put10 w10 w.heap.size (zX 0 zeroX)) w.heap.size (zX 0 zeroX) := CxOwn.mono (base := w.heap.size + 1) (CxOwn.far10 (y := zX 0 zeroX) ⟨OwnB.nil_ _ _, zeroX_own _ _⟩ (zX 0 zeroX) (by omega)) (by omega)
        have r9 : RdAt (put10 w10 w.heap.size (zX 0 zeroX)) b s1.l s1.t := rdAt_put10 g10.rd hb (zX 0 zeroX)
        have t9 : Turn w (put10 w10 w.heap.size (zX 0 zeroX)) b none := turn_put10 g10.turn (Nat.le_refl _) (zX 0 zeroX)
        have HFF := hide (And.intro z9 (And.intro o9 (And.intro r9 t9)))
        clear z9 o9 r9 t9
        have j0 : w10.cell? ⟨w.heap.size, 0, none⟩ = some (.int .i64 0) := g10.z.cells.1
        have j1 : w10.cell? ⟨w.heap.size, 1, none⟩ = some (.int .u16 0) := g10.z.cells.2.1
        have j2 : w10.cell? ⟨w.heap.size, 2, none⟩ = some (.int .u32 0) := g10.z.cells.2.2.1
        have j3 : w10.cell? ⟨w.heap.size, 3, none⟩ = some (.int .u64 0) := g10.z.cells.2.2.2.1
        have j4 : w10.cell? ⟨w.heap.size, 4, none⟩ = some (.int .u64 0) := g10.z.cells.2.2.2.2.1
        have j5 : w10.cell? ⟨w.heap.size, 5, none⟩ = some (.slice none 0 0) := g10.z.cells.2.2.2.2.2.1
        have j6 : w10.cell? ⟨w.heap.size, 6, none⟩ = some (.int .u64 0) := g10.z.cells.2.2.2.2.2.2.1
        have j7 : w10.cell? ⟨w.heap.size, 7, none⟩ = some (.slice none 0 0) := g10.z.cells.2.2.2.2.2.2.2.1
        have j8 : w10.cell? ⟨w.heap.size, 8, none⟩ = some (.slice none 0 0) := g10.z.cells.2.2.2.2.2.2.2.2.1
        have j9 : w10.cell? ⟨w.heap.size, 9, none⟩ = some (.slice none 0 0) := g10.z.cells.2.2.2.2.2.2.2.2.2
        have y2 := g10.z.lt
        have x0 := g10.z.fz 0
        have x1 := g10.z.fz 1
        have x2 := g10.z.fz 2
        have x3 := g10.z.fz 3
        have x4 := g10.z.fz 4
        have x50 := g10.z.fz 5
        have x60 := g10.z.fz 6
        have x70 := g10.z.fz 7
        have x8 := g10.z.fz 8
        have x9 := g10.z.fz 9
        clear g10
        go_wp2_with fail
        refine ce.mono ?_
        rintro e9 w11 ⟨rfl, rfl⟩
        clear ce
        go_wp2
        obtain ⟨z9, o9, r9, t9⟩ := HFF.out
        clear HFF j0 j1 j2 j3 j4 j5 j6 j7 j8 j9 y2 x0 x1 x2 x3 x4 x50 x60 x70 x8 x9
        refine bodyPost_ret (v := .agg #[.int .i64 0, .int .u16 0, .int .u32 0, .int .u64 0, .int .u64 0, .slice none 0 0, .int .u64 0, .slice none 0 0, .slice none 0 0, .slice none 0 0]) (results_cell_row Tryz.results107 _ _ (w.heap.size) _ _ _ _ rfl z9 Tryz.underlying48 rfl rfl) rfl ⟨zX 0 zeroX, rfl, by rw [HRS.out]; rfl, o9, ⟨Nat.zero_le _, zeroX_few⟩, ⟨by decide, by decide, by decide, by decide, by decide⟩, by rw [HRS.out]; exact r9, t9⟩
end Go.Proofs.YtjmkecaljkcoiaaGreatDoor
