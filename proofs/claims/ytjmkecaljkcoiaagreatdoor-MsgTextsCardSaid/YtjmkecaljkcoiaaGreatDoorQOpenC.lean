import Derived.LoopN
import Derived.Test.YtjmkecaljkcoiaaGreatDoorQRd4
import Derived.Test.YtjmkecaljkcoiaaGreatDoorQFlowA
import Derived.Test.YtjmkecaljkcoiaaGreatDoorQTurn
import Derived.Test.YtjmkecaljkcoiaaGreatDoorQOpenV
import Derived.Test.YtjmkecaljkcoiaaGreatDoorQOpenF
import Derived.Test.YtjmkecaljkcoiaaGreatDoorQView2
namespace Go.Proofs.YtjmkecaljkcoiaaGreatDoor
open Go.RowKit
set_option linter.unusedVariables false
set_option linter.unusedSimpArgs false
def prOf (l : List UInt8) : Pr := ⟨(pidG l).1, (pidG l).2.1, (pidG_bds l).1, (pidG_bds l).2.1⟩
def prd : Nat → List UInt8 → List Pr × List UInt8 × Nat
  | 0, l => ([], l, 0)
  | n + 1, l => if (pidG l).2.2.2 = 0 then (prOf l :: (prd n (l.drop (pidG l).2.2.1)).1, (prd n (l.drop (pidG l).2.2.1)).2.1, (prd n (l.drop (pidG l).2.2.1)).2.2) else ([], l, (pidG l).2.2.2)
def psE (l : List UInt8) (most : Nat) : Nat := if numE l most = 0 then (prd (getF l).1 (l.drop (getF l).2.1)).2.2 else numE l most
def psV (l : List UInt8) : List Pr := (prd (getF l).1 (l.drop (getF l).2.1)).1
def psR (l : List UInt8) : List UInt8 := (prd (getF l).1 (l.drop (getF l).2.1)).2.1
def GP (base : Nat) (L : List Pr) (v : Value) (w : World) : Prop := ∃ A c, v = .slice A L.length c ∧ OwnP w base (.slice A L.length c) L.length L
theorem OwnE.setLow {α : Type} {enc : α → List Value} {k : Nat} {T : TypeId} {w : World} {base n : Nat} {v : Value} {l : List α} (h : OwnE T enc k w base v n l) {p : Addr} (hp : p.block < base) (u : Value) : OwnE T enc k (w.setCell p u) base v n l := by
  refine ⟨h.1, ?_⟩
  rcases h.2 with h0 | ⟨g, cap, cur, rfl, hb, hh, r⟩
  · exact .inl h0
  · exact .inr ⟨g, cap, cur, rfl, hb, (Below.heap_setCell w p u g (by omega)).trans hh, r⟩
theorem GP.set_ {base : Nat} {L : List Pr} {v : Value} {w : World} (h : GP base L v w) {p : Addr} (hp : p.block < base) (u : Value) : GP base L v (w.setCell p u) := by
  obtain ⟨A, c, e, h⟩ := h
  exact ⟨A, c, e, h.setLow hp u⟩
theorem GP.mono {base base' : Nat} {L : List Pr} {v : Value} {w : World} (h : GP base L v w) (hb : base' ≤ base) : GP base' L v w := by
  obtain ⟨A, c, e, h⟩ := h
  exact ⟨A, c, e, h.mono hb⟩
theorem RdAt.grown {w w' : World} {b t : Nat} {l : List UInt8} {row : Option Nat} (h : RdAt w b l t) (hg : w.grownBy w' row) (hr : ∀ g, row = some g → b < g) : RdAt w' b l t := by
  obtain ⟨A, c, h⟩ := h
  have hlt := h.lt
  exact ⟨A, c, h.keep fun i hi => hg.block i (by omega) (fun e => by have := hr i e.symm; omega)⟩
def PsInv (N : Nat) (M : List UInt8) (n : Nat) (acc : List Pr) (rest : List UInt8) (t : Nat) : Prop :=
  (t = 0 ∧ prd N M = (acc ++ (prd n rest).1, (prd n rest).2.1, (prd n rest).2.2)) ∨ (t ≠ 0 ∧ (prd N M).2.2 = t)
theorem PsInv.start (N : Nat) (M : List UInt8) : PsInv N M N [] M 0 := .inl ⟨rfl, rfl⟩
theorem PsInv.step {N n : Nat} {M rest : List UInt8} {acc : List Pr} (h : PsInv N M (n + 1) acc rest 0) (hp : (pidG rest).2.2.2 = 0) : PsInv N M n (acc ++ [prOf rest]) (rest.drop (pidG rest).2.2.1) 0 := by
  rcases h with ⟨_, h⟩ | ⟨h, _⟩
  · refine .inl ⟨rfl, ?_⟩
    rw [h, prd, if_pos hp]
    simp
  · exact absurd rfl h
theorem PsInv.bad {N n : Nat} {M rest : List UInt8} {acc acc' : List Pr} (h : PsInv N M (n + 1) acc rest 0) (hp : (pidG rest).2.2.2 ≠ 0) : PsInv N M n acc' rest (pidG rest).2.2.2 := by
  rcases h with ⟨_, h⟩ | ⟨h, _⟩
  · refine .inr ⟨hp, ?_⟩
    rw [h, prd, if_neg hp]
  · exact absurd rfl h
theorem PsInv.done {N : Nat} {M rest : List UInt8} {acc : List Pr} (h : PsInv N M 0 acc rest 0) : (prd N M).1 = acc ∧ (prd N M).2.1 = rest ∧ (prd N M).2.2 = 0 := by
  rcases h with ⟨_, h⟩ | ⟨h, _⟩
  · rw [h]; simp [prd]
  · exact absurd rfl h
theorem PsInv.out {N n t : Nat} {M rest : List UInt8} {acc : List Pr} (h : PsInv N M n acc rest t) (ht : t ≠ 0) : (prd N M).2.2 = t := by
  rcases h with ⟨h, _⟩ | ⟨_, h⟩
  · exact absurd h ht
  · exact h
def Ps1P (w : World) (b base : Nat) (l : List UInt8) (most : Nat) : Ending → World → Prop := CloP w b (fun v _ => ∃ (V : Option Addr) (m d : Nat), v = .slice V m d) (GP base (psV l)) (psR l) (psE l most)
def PsRel (w wr : World) (b N n : Nat) (M : List UInt8) (v : Value) : Prop :=
  ∃ acc rest t A q c, v = .slice A q c ∧ OwnP wr w.heap.size (.slice A q c) q acc ∧ RdAt wr b rest t ∧ Turn w wr b none ∧ PsInv N M n acc rest t ∧ q + n = N
end Go.Proofs.YtjmkecaljkcoiaaGreatDoor
namespace Go.Proofs.YtjmkecaljkcoiaaGreatDoor
open Go.RowKit
set_option linter.unusedVariables false
set_option linter.unusedSimpArgs false
def ReadsB (w : World) (b n : Nat) (l t : List UInt8) (e : Ending) (w' : World) : Prop := ∃ A c, e = .returned (.slice A n c) ∧ OwnB w' w.heap.size (.slice A n c) n l ∧ RdAt w' b t 0 ∧ Turn w w' b none
def ReadsPs (w : World) (b n : Nat) (l : List Pr) (t : List UInt8) (e : Ending) (w' : World) : Prop := ∃ A c, e = .returned (.slice A n c) ∧ OwnP w' w.heap.size (.slice A n c) n l ∧ RdAt w' b t 0 ∧ Turn w w' b none
end Go.Proofs.YtjmkecaljkcoiaaGreatDoor
namespace Go.Proofs.YtjmkecaljkcoiaaGreatDoor
open Go.RowKit
set_option linter.unusedVariables false
theorem LeavesP.few9 {mem : List Pr} {lvs : List (List Pr)} (h : LeavesP mem lvs) : lvs.length ≤ mem.length := by
  have := h.firsts.len
  rwa [firstsP_len] at this
structure Cm where
  kind : Int
  p : Pr
  num : Nat
  vn : Nat
  d : List UInt8
  v : Vi
def noV : Vi := ⟨0, [], [], []⟩
def zC (k : Int) (v : Vi) : Cm := ⟨k, default, 0, 0, [], v⟩
def cntsP (n : Nat) : Prop := 1 ≤ n ∧ n ≤ 4611686018427387904
def ButLen (c : Cm) : Prop := (c.kind = 1 ∧ c = zC 1 noV) ∨ (c.kind = 2 ∧ mayP c.p = true ∧ cntsP c.num ∧ cntsP c.vn ∧ c.v = noV) ∨ (c.kind = 3 ∧ MayV c.v ∧ c = zC 3 c.v)
structure MayC (c : Cm) : Prop where
  but : ButLen c
  short : c.d.length ≤ 200
def ckE (t : Bool) (n : Nat) : Int := if t then (if 200 < n then 14 else 0) else 1
theorem ckE_may {c : Cm} {t : Bool} (ht : t = true ↔ ButLen c) : ckE t c.d.length = 0 ↔ MayC c := by
  cases t
  · exact ⟨fun h => by simp [ckE] at h, fun h => by have := ht.2 h.but; cases this⟩
  · by_cases hn : 200 < c.d.length
    · exact ⟨fun h => by simp [ckE, hn] at h, fun h => by have := h.short; omega⟩
    · exact ⟨fun _ => ⟨ht.1 rfl, by omega⟩, fun _ => by simp [ckE, hn]⟩
def tailC (c : Cm) : List UInt8 := if c.kind = 2 then pidL c.p.i c.p.k ++ (shortL c.num ++ (shortL c.vn ++ (shortL c.d.length ++ c.d))) else if c.kind = 3 then viewL c.v else []
def formC (c : Cm) : List UInt8 := shortL c.kind.toNat ++ tailC c
theorem ButLen.kind {c : Cm} (h : ButLen c) : c.kind = 1 ∨ c.kind = 2 ∨ c.kind = 3 := by
  rcases h with h | h | h
  · exact .inl h.1
  · exact .inr (.inl h.1)
  · exact .inr (.inr h.1)
theorem Cm.ext' {a b : Cm} (h0 : a.kind = b.kind) (h1 : a.p = b.p) (h2 : a.num = b.num) (h3 : a.vn = b.vn) (h4 : a.d = b.d) (h5 : a.v = b.v) : a = b := by
  cases a; cases b; simp only at h0 h1 h2 h3 h4 h5; subst h0; subst h1; subst h2; subst h3; subst h4; subst h5; rfl
end Go.Proofs.YtjmkecaljkcoiaaGreatDoor
namespace Go.Proofs.YtjmkecaljkcoiaaGreatDoor
open Go.RowKit
set_option linter.unusedVariables false
structure RS where
  l : List UInt8
  t : Nat
def numS (most : Nat) (s : RS) : Nat × RS := if s.t = 0 then (if numE s.l most = 0 then ((getF s.l).1, ⟨s.l.drop (getF s.l).2.1, 0⟩) else (0, ⟨s.l, numE s.l most⟩)) else (0, s)
def pidQ (s : RS) : Pr × RS := if s.t = 0 then (if (pidG s.l).2.2.2 = 0 then (prOf s.l, ⟨s.l.drop (pidG s.l).2.2.1, 0⟩) else (default, ⟨s.l, (pidG s.l).2.2.2⟩)) else (default, s)
def bytS (most : Nat) (s : RS) : List UInt8 × RS := if s.t = 0 then (if bytE s.l most = 0 then (bytV s.l, ⟨bytR s.l, 0⟩) else ([], ⟨s.l, bytE s.l most⟩)) else ([], s)
def pidsS (most : Nat) (s : RS) : List Pr × RS := if s.t = 0 then (if psE s.l most = 0 then (psV s.l, ⟨psR s.l, 0⟩) else ([], ⟨s.l, psE s.l most⟩)) else ([], s)
def somR (mem : List Pr) : Nat → RS → List Pr × RS
  | 0, s => ([], s)
  | n + 1, s => if (numS (mem.length - 1) s).2.t = 0 then (mem.getD (numS (mem.length - 1) s).1 default :: (somR mem n (numS (mem.length - 1) s).2).1, (somR mem n (numS (mem.length - 1) s).2).2) else ([], (numS (mem.length - 1) s).2)
def someS (mem : List Pr) (s : RS) : List Pr × RS :=
  if (numS 24 s).1 = 0 then ([], (numS 24 s).2) else if mem = [] then ([], ⟨(numS 24 s).2.l, 3⟩) else somR mem (numS 24 s).1 (numS 24 s).2
def lvsR (mem : List Pr) : Nat → RS → List (List Pr) × RS
  | 0, s => ([], s)
  | n + 1, s => if (someS mem s).2.t = 0 then ((someS mem s).1 :: (lvsR mem n (someS mem s).2).1, (lvsR mem n (someS mem s).2).2) else ([], (someS mem s).2)
def partsS (s : RS) : Vi × RS :=
  (⟨(numS 4611686018427387904 s).1, (pidsS 24 (numS 4611686018427387904 s).2).1,
    (lvsR (pidsS 24 (numS 4611686018427387904 s).2).1 (numS 24 (pidsS 24 (numS 4611686018427387904 s).2).2).1 (numS 24 (pidsS 24 (numS 4611686018427387904 s).2).2).2).1,
    (someS (pidsS 24 (numS 4611686018427387904 s).2).1 (lvsR (pidsS 24 (numS 4611686018427387904 s).2).1 (numS 24 (pidsS 24 (numS 4611686018427387904 s).2).2).1 (numS 24 (pidsS 24 (numS 4611686018427387904 s).2).2).2).2).1⟩,
   (someS (pidsS 24 (numS 4611686018427387904 s).2).1 (lvsR (pidsS 24 (numS 4611686018427387904 s).2).1 (numS 24 (pidsS 24 (numS 4611686018427387904 s).2).2).1 (numS 24 (pidsS 24 (numS 4611686018427387904 s).2).2).2).2).2)
open Classical in
noncomputable def viewS (s : RS) : Vi × RS :=
  if (partsS s).2.t = 0 then (if MayV (partsS s).1 then ((partsS s).1, (partsS s).2) else (noV, ⟨(partsS s).2.l, 5⟩)) else (noV, (partsS s).2)
def partsC (s : RS) : Cm × RS :=
  (⟨2, (pidQ s).1, (numS 4611686018427387904 (pidQ s).2).1, (numS 4611686018427387904 (numS 4611686018427387904 (pidQ s).2).2).1, (bytS 200 (numS 4611686018427387904 (numS 4611686018427387904 (pidQ s).2).2).2).1, noV⟩,
   (bytS 200 (numS 4611686018427387904 (numS 4611686018427387904 (pidQ s).2).2).2).2)
noncomputable def bareS (s : RS) : Cm × RS :=
  if (numS 3 s).1 = 2 then partsC (numS 3 s).2 else if (numS 3 s).1 = 3 then (zC 3 (viewS (numS 3 s).2).1, (viewS (numS 3 s).2).2) else (zC ((numS 3 s).1 : Nat) noV, (numS 3 s).2)
open Classical in
noncomputable def cmdS (s : RS) : Cm × RS :=
  if (bareS s).2.t = 0 then (if MayC (bareS s).1 then bareS s else (zC 0 noV, ⟨(bareS s).2.l, 5⟩)) else (zC 0 noV, (bareS s).2)
end Go.Proofs.YtjmkecaljkcoiaaGreatDoor
namespace Go.Proofs.YtjmkecaljkcoiaaGreatDoor
open Go.RowKit Go.ChangeShapes Go.WideShapes Go.ChangeAt
set_option linter.unusedVariables false
set_option linter.unusedSimpArgs false
structure Cx where
  kind : Int
  p : Pr
  num : Nat
  vn : Nat
  A : Option Addr
  n : Nat
  c : Nat
  l : List UInt8
  x : Vw
def Cx.m (y : Cx) : Cm := ⟨y.kind, y.p, y.num, y.vn, y.l, y.x.v⟩
structure CxIn (w : World) (B0 : Nat) (y : Cx) : Prop where
  k0 : -9223372036854775808 ≤ y.kind
  k1 : y.kind ≤ 9223372036854775807
  hn : y.num < 18446744073709551616
  hv : y.vn < 18446744073709551616
  bs : Bs w B0 y.A y.n y.l
  nc : y.n ≤ y.c
  room : y.c ≤ maxLen
  vw : VwIn w B0 y.x
theorem CxIn.below {w w' : World} {B0 : Nat} {y : Cx} (h : CxIn w B0 y) (hb : Below B0 w w') : CxIn w' B0 y := ⟨h.k0, h.k1, h.hn, h.hv, h.bs.below hb, h.nc, h.room, h.vw.below hb⟩
theorem CxIn.more {w : World} {B0 B1 : Nat} {y : Cx} (h : CxIn w B0 y) (hb : B0 ≤ B1) : CxIn w B1 y := ⟨h.k0, h.k1, h.hn, h.hv, h.bs.more hb, h.nc, h.room, h.vw.more hb⟩
theorem CxIn.alloc {w : World} {B0 : Nat} {y : Cx} (h : CxIn w B0 y) (hB : B0 ≤ w.heap.size) (o : Obj) : CxIn (w.alloc o) B0 y := h.below ((Below.refl _ _).alloc hB o)
def CAt (w : World) (b : Nat) (y : Cx) : Prop := w.heap[b]? = some (.cells #[.int .i64 y.kind, .int .u16 y.p.i, .int .u32 y.p.k, .int .u64 y.num, .int .u64 y.vn, .slice y.A y.n y.c, .int .u64 y.x.id, .slice y.x.A y.x.m y.x.c, .slice y.x.B y.x.d y.x.e, .slice y.x.C y.x.f y.x.g] 48)
theorem CAt.cells {w : World} {b : Nat} {y : Cx} (h : CAt w b y) : w.cell? ⟨b, 0, none⟩ = some (.int .i64 y.kind) ∧ w.cell? ⟨b, 1, none⟩ = some (.int .u16 y.p.i) ∧ w.cell? ⟨b, 2, none⟩ = some (.int .u32 y.p.k) ∧
    w.cell? ⟨b, 3, none⟩ = some (.int .u64 y.num) ∧ w.cell? ⟨b, 4, none⟩ = some (.int .u64 y.vn) ∧ w.cell? ⟨b, 5, none⟩ = some (.slice y.A y.n y.c) ∧
    w.cell? ⟨b, 6, none⟩ = some (.int .u64 y.x.id) ∧ w.cell? ⟨b, 7, none⟩ = some (.slice y.x.A y.x.m y.x.c) ∧ w.cell? ⟨b, 8, none⟩ = some (.slice y.x.B y.x.d y.x.e) ∧ w.cell? ⟨b, 9, none⟩ = some (.slice y.x.C y.x.f y.x.g) := by
  have hf : ∀ z, w.cell? ⟨b, z, none⟩ = (#[.int .i64 y.kind, .int .u16 y.p.i, .int .u32 y.p.k, .int .u64 y.num, .int .u64 y.vn, .slice y.A y.n y.c, .int .u64 y.x.id, .slice y.x.A y.x.m y.x.c, .slice y.x.B y.x.d y.x.e, .slice y.x.C y.x.f y.x.g] : Array Value)[z]? := by
    intro z
    unfold CAt at h
    simp [World.cell?, h]
  exact ⟨hf 0, hf 1, hf 2, hf 3, hf 4, hf 5, hf 6, hf 7, hf 8, hf 9⟩
theorem CAt.lt {w : World} {b : Nat} {y : Cx} (h : CAt w b y) : b < w.heap.size := lt_of_heap h
theorem CAt.mk_ (w : World) (y : Cx) : CAt (w.alloc (.cells #[.int .i64 y.kind, .int .u16 y.p.i, .int .u32 y.p.k, .int .u64 y.num, .int .u64 y.vn, .slice y.A y.n y.c, .int .u64 y.x.id, .slice y.x.A y.x.m y.x.c, .slice y.x.B y.x.d y.x.e, .slice y.x.C y.x.f y.x.g] 48)) w.heap.size y := heap_alloc_new w _
theorem CAt.alloc {w : World} {b : Nat} {y : Cx} (h : CAt w b y) (o : Obj) : CAt (w.alloc o) b y := (Below.heap_alloc w o b h.lt).trans h
theorem CAt.below {w w' : World} {b B : Nat} {y : Cx} (h : CAt w b y) (hb : Below B w w') (hg : b < B) : CAt w' b y := (hb.block b hg).trans h
theorem CAt.later {w w' : World} {b : Nat} {y : Cx} (h : CAt w b y) (hb : Below w.heap.size w w') : CAt w' b y := h.below hb h.lt
theorem CAt.fz {w : World} {b : Nat} {y : Cx} (h : CAt w b y) (j : Nat) : w.frozen? ⟨b, j, none⟩ = false := frozen_of_row w b j _ _ h
theorem CAt.turn {w w' : World} {g b : Nat} {mg : Option Nat} {y : Cx} (h : CAt w g y) (ht : Turn w w' b mg) (h1 : g ≠ b) (h2 : some g ≠ mg) : CAt w' g y := (ht.block g h.lt h1 h2).trans h
theorem CAt.far {w : World} {b : Nat} {y : Cx} (h : CAt w b y) {a : Addr} (u : Value) (ha : b ≠ a.block) : CAt (w.setCell a u) b y := (heap_setCell_other w a b u ha).trans h
structure CSmall (y : Cx) : Prop where
  n : y.n ≤ 400
  v : VSmall y.x
theorem cells_cmd : Tryz.prog.cellsOf 48 = 10 := by kernel_rfl
section
variable {H : Type} {enc : TypeId × Value → H} {w : World} {base : Nat}
theorem trod_struct6 {spare : Nat → Bool} {held : Bool} {P : Program} {t : TypeId} {f0 f1 f2 f3 f4 f5 : Field} {fuel : Nat} {cs : List Value} {x : DataW H × List MemPlace} (ht : P.underlying t = some (.struct #[f0, f1, f2, f3, f4, f5])) (h : DataW.trod enc P w base spare held fuel t cs = some x) :
    ∃ y0 y1 y2 y3 y4 y5 n, cs.length = P.cellsOf t ∧ DataW.trod enc P w base spare held n f0.type ((cs.drop f0.offset).take (P.cellsOf f0.type)) = some y0 ∧
      DataW.trod enc P w base spare held n f1.type ((cs.drop f1.offset).take (P.cellsOf f1.type)) = some y1 ∧ DataW.trod enc P w base spare held n f2.type ((cs.drop f2.offset).take (P.cellsOf f2.type)) = some y2 ∧
      DataW.trod enc P w base spare held n f3.type ((cs.drop f3.offset).take (P.cellsOf f3.type)) = some y3 ∧ DataW.trod enc P w base spare held n f4.type ((cs.drop f4.offset).take (P.cellsOf f4.type)) = some y4 ∧
      DataW.trod enc P w base spare held n f5.type ((cs.drop f5.offset).take (P.cellsOf f5.type)) = some y5 := by
  obtain ⟨xs, n, _, rfl, hl, hlen, hf⟩ := DataW.trod_struct ht h
  match xs, hlen with
  | [y0, y1, y2, y3, y4, y5], _ => exact ⟨y0, y1, y2, y3, y4, y5, n, hl, by simpa using hf 0 f0 rfl, by simpa using hf 1 f1 rfl, by simpa using hf 2 f2 rfl, by simpa using hf 3 f3 rfl, by simpa using hf 4 f4 rfl, by simpa using hf 5 f5 rfl⟩
end
end Go.Proofs.YtjmkecaljkcoiaaGreatDoor
