import Derived.Test.YtjmkecaljkcoiaaGreatDoorQRd5
import Derived.Test.YtjmkecaljkcoiaaGreatDoorQRd1
import Derived.Test.YtjmkecaljkcoiaaGreatDoorQTurn
import Derived.Test.YtjmkecaljkcoiaaGreatDoorQRowE
import Derived.Test.YtjmkecaljkcoiaaGreatDoorQView2
namespace Go.Proofs.YtjmkecaljkcoiaaGreatDoor
open Go.RowKit
set_option linter.unusedVariables false
set_option linter.unusedSimpArgs false
def ReadsB (w : World) (b n : Nat) (l t : List UInt8) (e : Ending) (w' : World) : Prop := ∃ A c, e = .returned (.slice A n c) ∧ OwnB w' w.heap.size (.slice A n c) n l ∧ RdAt w' b t 0 ∧ Turn w w' b none
def ReadsPs (w : World) (b n : Nat) (l : List Pr) (t : List UInt8) (e : Ending) (w' : World) : Prop := ∃ A c, e = .returned (.slice A n c) ∧ OwnP w' w.heap.size (.slice A n c) n l ∧ RdAt w' b t 0 ∧ Turn w w' b none
end Go.Proofs.YtjmkecaljkcoiaaGreatDoor
namespace Go.Proofs.YtjmkecaljkcoiaaGreatDoor
open Go.RowKit
set_option linter.unusedVariables false
theorem LeavesP.few9 {mem : List Pr} {lvs : List (List Pr)} (h : LeavesP mem lvs) : lvs.length ≤ mem.length := by
  have := h.firsts.len
  rwa [firstsP_len] at this
structure Cm where
  kind : Int
  p : Pr
  num : Nat
  vn : Nat
  d : List UInt8
  v : Vi
def noV : Vi := ⟨0, [], [], []⟩
def zC (k : Int) (v : Vi) : Cm := ⟨k, default, 0, 0, [], v⟩
def cntsP (n : Nat) : Prop := 1 ≤ n ∧ n ≤ 4611686018427387904
def ButLen (c : Cm) : Prop := (c.kind = 1 ∧ c = zC 1 noV) ∨ (c.kind = 2 ∧ mayP c.p = true ∧ cntsP c.num ∧ cntsP c.vn ∧ c.v = noV) ∨ (c.kind = 3 ∧ MayV c.v ∧ c = zC 3 c.v)
structure MayC (c : Cm) : Prop where
  but : ButLen c
  short : c.d.length ≤ 200
def ckE (t : Bool) (n : Nat) : Int := if t then (if 200 < n then 14 else 0) else 1
theorem ckE_may {c : Cm} {t : Bool} (ht : t = true ↔ ButLen c) : ckE t c.d.length = 0 ↔ MayC c := by
  cases t
  · exact ⟨fun h => by simp [ckE] at h, fun h => by have := ht.2 h.but; cases this⟩
  · by_cases hn : 200 < c.d.length
    · exact ⟨fun h => by simp [ckE, hn] at h, fun h => by have := h.short; omega⟩
    · exact ⟨fun _ => ⟨ht.1 rfl, by omega⟩, fun _ => by simp [ckE, hn]⟩
def tailC (c : Cm) : List UInt8 := if c.kind = 2 then pidL c.p.i c.p.k ++ (shortL c.num ++ (shortL c.vn ++ (shortL c.d.length ++ c.d))) else if c.kind = 3 then viewL c.v else []
def formC (c : Cm) : List UInt8 := shortL c.kind.toNat ++ tailC c
theorem ButLen.kind {c : Cm} (h : ButLen c) : c.kind = 1 ∨ c.kind = 2 ∨ c.kind = 3 := by
  rcases h with h | h | h
  · exact .inl h.1
  · exact .inr (.inl h.1)
  · exact .inr (.inr h.1)
theorem Cm.ext' {a b : Cm} (h0 : a.kind = b.kind) (h1 : a.p = b.p) (h2 : a.num = b.num) (h3 : a.vn = b.vn) (h4 : a.d = b.d) (h5 : a.v = b.v) : a = b := by
  cases a; cases b; simp only at h0 h1 h2 h3 h4 h5; subst h0; subst h1; subst h2; subst h3; subst h4; subst h5; rfl
end Go.Proofs.YtjmkecaljkcoiaaGreatDoor
namespace Go.Proofs.YtjmkecaljkcoiaaGreatDoor
open Go.RowKit
set_option linter.unusedVariables false
structure RS where
  l : List UInt8
  t : Nat
def numS (most : Nat) (s : RS) : Nat × RS := if s.t = 0 then (if numE s.l most = 0 then ((getF s.l).1, ⟨s.l.drop (getF s.l).2.1, 0⟩) else (0, ⟨s.l, numE s.l most⟩)) else (0, s)
def pidQ (s : RS) : Pr × RS := if s.t = 0 then (if (pidG s.l).2.2.2 = 0 then (prOf s.l, ⟨s.l.drop (pidG s.l).2.2.1, 0⟩) else (default, ⟨s.l, (pidG s.l).2.2.2⟩)) else (default, s)
def bytS (most : Nat) (s : RS) : List UInt8 × RS := if s.t = 0 then (if bytE s.l most = 0 then (bytV s.l, ⟨bytR s.l, 0⟩) else ([], ⟨s.l, bytE s.l most⟩)) else ([], s)
def pidsS (most : Nat) (s : RS) : List Pr × RS := if s.t = 0 then (if psE s.l most = 0 then (psV s.l, ⟨psR s.l, 0⟩) else ([], ⟨s.l, psE s.l most⟩)) else ([], s)
theorem numS_le (most : Nat) (s : RS) : (numS most s).1 ≤ most := by
  unfold numS
  split
  · split
    · next h => exact numE_le h
    · exact Nat.zero_le _
  · exact Nat.zero_le _
theorem numS_len (most : Nat) (s : RS) : (numS most s).2.l.length ≤ s.l.length := by
  unfold numS
  split
  · split
    · simp
    · exact Nat.le_refl _
  · exact Nat.le_refl _
theorem pidQ_len (s : RS) : (pidQ s).2.l.length ≤ s.l.length := by
  unfold pidQ
  split
  · split
    · simp
    · exact Nat.le_refl _
  · exact Nat.le_refl _
theorem numS_stop {most : Nat} {s : RS} (h : s.t ≠ 0) : numS most s = (0, s) := if_neg h
theorem pidQ_stop {s : RS} (h : s.t ≠ 0) : pidQ s = (default, s) := if_neg h
theorem bytS_stop {most : Nat} {s : RS} (h : s.t ≠ 0) : bytS most s = ([], s) := if_neg h
theorem pidsS_stop {most : Nat} {s : RS} (h : s.t ≠ 0) : pidsS most s = ([], s) := if_neg h
theorem numS_zero {most : Nat} {s : RS} (h : (numS most s).2.t ≠ 0) : (numS most s).1 = 0 := by
  unfold numS at *
  split
  · next h0 =>
    rw [if_pos h0] at h
    split
    · next h1 => rw [if_pos h1] at h; exact absurd rfl h
    · rfl
  · rfl
theorem prd_len : ∀ (n : Nat) (l : List UInt8), (prd n l).1.length ≤ n
  | 0, l => Nat.le_refl _
  | n + 1, l => by
    rw [prd]
    split
    · have := prd_len n (l.drop (pidG l).2.2.1)
      simp only [List.length_cons]
      omega
    · simp
theorem pidsS_le (most : Nat) (s : RS) : (pidsS most s).1.length ≤ most := by
  unfold pidsS
  split
  · split
    · next h =>
      unfold psE at h
      split at h
      · next h1 =>
        exact Nat.le_trans (prd_len (getF s.l).1 (s.l.drop (getF s.l).2.1)) (numE_le h1)
      · next h1 => exact absurd h h1
    · simp
  · simp
theorem bytS_le (most : Nat) (s : RS) : (bytS most s).1.length ≤ most := by
  unfold bytS
  split
  · split
    · next h =>
      unfold bytE at h
      split at h
      · next h1 =>
        have := numE_le h1
        unfold bytV
        rw [List.length_take]
        omega
      · next h1 => exact absurd h h1
    · simp
  · simp
def somR (mem : List Pr) : Nat → RS → List Pr × RS
  | 0, s => ([], s)
  | n + 1, s => if (numS (mem.length - 1) s).2.t = 0 then (mem.getD (numS (mem.length - 1) s).1 default :: (somR mem n (numS (mem.length - 1) s).2).1, (somR mem n (numS (mem.length - 1) s).2).2) else ([], (numS (mem.length - 1) s).2)
def someS (mem : List Pr) (s : RS) : List Pr × RS :=
  if (numS 24 s).1 = 0 then ([], (numS 24 s).2) else if mem = [] then ([], ⟨(numS 24 s).2.l, 3⟩) else somR mem (numS 24 s).1 (numS 24 s).2
def lvsR (mem : List Pr) : Nat → RS → List (List Pr) × RS
  | 0, s => ([], s)
  | n + 1, s => if (someS mem s).2.t = 0 then ((someS mem s).1 :: (lvsR mem n (someS mem s).2).1, (lvsR mem n (someS mem s).2).2) else ([], (someS mem s).2)
def partsS (s : RS) : Vi × RS :=
  (⟨(numS 4611686018427387904 s).1, (pidsS 24 (numS 4611686018427387904 s).2).1,
    (lvsR (pidsS 24 (numS 4611686018427387904 s).2).1 (numS 24 (pidsS 24 (numS 4611686018427387904 s).2).2).1 (numS 24 (pidsS 24 (numS 4611686018427387904 s).2).2).2).1,
    (someS (pidsS 24 (numS 4611686018427387904 s).2).1 (lvsR (pidsS 24 (numS 4611686018427387904 s).2).1 (numS 24 (pidsS 24 (numS 4611686018427387904 s).2).2).1 (numS 24 (pidsS 24 (numS 4611686018427387904 s).2).2).2).2).1⟩,
   (someS (pidsS 24 (numS 4611686018427387904 s).2).1 (lvsR (pidsS 24 (numS 4611686018427387904 s).2).1 (numS 24 (pidsS 24 (numS 4611686018427387904 s).2).2).1 (numS 24 (pidsS 24 (numS 4611686018427387904 s).2).2).2).2).2)
open Classical in
noncomputable def viewS (s : RS) : Vi × RS :=
  if (partsS s).2.t = 0 then (if MayV (partsS s).1 then ((partsS s).1, (partsS s).2) else (noV, ⟨(partsS s).2.l, 5⟩)) else (noV, (partsS s).2)
theorem viewS_yes {s : RS} (h : (partsS s).2.t = 0) (h1 : MayV (partsS s).1) : viewS s = partsS s := by unfold viewS; rw [if_pos h, if_pos h1]
theorem viewS_form {s : RS} (h : (partsS s).2.t = 0) (h1 : ¬ MayV (partsS s).1) : viewS s = (noV, ⟨(partsS s).2.l, 5⟩) := by unfold viewS; rw [if_pos h, if_neg h1]
theorem viewS_stop {s : RS} (h : (partsS s).2.t ≠ 0) : viewS s = (noV, (partsS s).2) := by unfold viewS; rw [if_neg h]
def partsC (s : RS) : Cm × RS :=
  (⟨2, (pidQ s).1, (numS 4611686018427387904 (pidQ s).2).1, (numS 4611686018427387904 (numS 4611686018427387904 (pidQ s).2).2).1, (bytS 200 (numS 4611686018427387904 (numS 4611686018427387904 (pidQ s).2).2).2).1, noV⟩,
   (bytS 200 (numS 4611686018427387904 (numS 4611686018427387904 (pidQ s).2).2).2).2)
noncomputable def bareS (s : RS) : Cm × RS :=
  if (numS 3 s).1 = 2 then partsC (numS 3 s).2 else if (numS 3 s).1 = 3 then (zC 3 (viewS (numS 3 s).2).1, (viewS (numS 3 s).2).2) else (zC ((numS 3 s).1 : Nat) noV, (numS 3 s).2)
open Classical in
noncomputable def cmdS (s : RS) : Cm × RS :=
  if (bareS s).2.t = 0 then (if MayC (bareS s).1 then bareS s else (zC 0 noV, ⟨(bareS s).2.l, 5⟩)) else (zC 0 noV, (bareS s).2)
theorem cmdS_yes {s : RS} (h : (bareS s).2.t = 0) (h1 : MayC (bareS s).1) : cmdS s = bareS s := by unfold cmdS; rw [if_pos h, if_pos h1]
theorem cmdS_form {s : RS} (h : (bareS s).2.t = 0) (h1 : ¬ MayC (bareS s).1) : cmdS s = (zC 0 noV, ⟨(bareS s).2.l, 5⟩) := by unfold cmdS; rw [if_pos h, if_neg h1]
theorem cmdS_stop {s : RS} (h : (bareS s).2.t ≠ 0) : cmdS s = (zC 0 noV, (bareS s).2) := by unfold cmdS; rw [if_neg h]
end Go.Proofs.YtjmkecaljkcoiaaGreatDoor
namespace Go.Proofs.YtjmkecaljkcoiaaGreatDoor
open Go.RowKit Go.ChangeShapes Go.WideShapes Go.ChangeAt
set_option linter.unusedVariables false
set_option linter.unusedSimpArgs false
structure Cx where
  kind : Int
  p : Pr
  num : Nat
  vn : Nat
  A : Option Addr
  n : Nat
  c : Nat
  l : List UInt8
  x : Vw
def Cx.m (y : Cx) : Cm := ⟨y.kind, y.p, y.num, y.vn, y.l, y.x.v⟩
structure CxIn (w : World) (B0 : Nat) (y : Cx) : Prop where
  k0 : -9223372036854775808 ≤ y.kind
  k1 : y.kind ≤ 9223372036854775807
  hn : y.num < 18446744073709551616
  hv : y.vn < 18446744073709551616
  bs : Bs w B0 y.A y.n y.l
  nc : y.n ≤ y.c
  room : y.c ≤ maxLen
  vw : VwIn w B0 y.x
theorem CxIn.below {w w' : World} {B0 : Nat} {y : Cx} (h : CxIn w B0 y) (hb : Below B0 w w') : CxIn w' B0 y := ⟨h.k0, h.k1, h.hn, h.hv, h.bs.below hb, h.nc, h.room, h.vw.below hb⟩
theorem CxIn.more {w : World} {B0 B1 : Nat} {y : Cx} (h : CxIn w B0 y) (hb : B0 ≤ B1) : CxIn w B1 y := ⟨h.k0, h.k1, h.hn, h.hv, h.bs.more hb, h.nc, h.room, h.vw.more hb⟩
theorem CxIn.alloc {w : World} {B0 : Nat} {y : Cx} (h : CxIn w B0 y) (hB : B0 ≤ w.heap.size) (o : Obj) : CxIn (w.alloc o) B0 y := h.below ((Below.refl _ _).alloc hB o)
def CAt (w : World) (b : Nat) (y : Cx) : Prop := w.heap[b]? = some (.cells #[.int .i64 y.kind, .int .u16 y.p.i, .int .u32 y.p.k, .int .u64 y.num, .int .u64 y.vn, .slice y.A y.n y.c, .int .u64 y.x.id, .slice y.x.A y.x.m y.x.c, .slice y.x.B y.x.d y.x.e, .slice y.x.C y.x.f y.x.g] 48)
theorem CAt.cells {w : World} {b : Nat} {y : Cx} (h : CAt w b y) : w.cell? ⟨b, 0, none⟩ = some (.int .i64 y.kind) ∧ w.cell? ⟨b, 1, none⟩ = some (.int .u16 y.p.i) ∧ w.cell? ⟨b, 2, none⟩ = some (.int .u32 y.p.k) ∧
    w.cell? ⟨b, 3, none⟩ = some (.int .u64 y.num) ∧ w.cell? ⟨b, 4, none⟩ = some (.int .u64 y.vn) ∧ w.cell? ⟨b, 5, none⟩ = some (.slice y.A y.n y.c) ∧
    w.cell? ⟨b, 6, none⟩ = some (.int .u64 y.x.id) ∧ w.cell? ⟨b, 7, none⟩ = some (.slice y.x.A y.x.m y.x.c) ∧ w.cell? ⟨b, 8, none⟩ = some (.slice y.x.B y.x.d y.x.e) ∧ w.cell? ⟨b, 9, none⟩ = some (.slice y.x.C y.x.f y.x.g) := by
  have hf : ∀ z, w.cell? ⟨b, z, none⟩ = (#[.int .i64 y.kind, .int .u16 y.p.i, .int .u32 y.p.k, .int .u64 y.num, .int .u64 y.vn, .slice y.A y.n y.c, .int .u64 y.x.id, .slice y.x.A y.x.m y.x.c, .slice y.x.B y.x.d y.x.e, .slice y.x.C y.x.f y.x.g] : Array Value)[z]? := by
    intro z
    unfold CAt at h
    simp [World.cell?, h]
  exact ⟨hf 0, hf 1, hf 2, hf 3, hf 4, hf 5, hf 6, hf 7, hf 8, hf 9⟩
theorem CAt.lt {w : World} {b : Nat} {y : Cx} (h : CAt w b y) : b < w.heap.size := lt_of_heap h
theorem CAt.mk_ (w : World) (y : Cx) : CAt (w.alloc (.cells #[.int .i64 y.kind, .int .u16 y.p.i, .int .u32 y.p.k, .int .u64 y.num, .int .u64 y.vn, .slice y.A y.n y.c, .int .u64 y.x.id, .slice y.x.A y.x.m y.x.c, .slice y.x.B y.x.d y.x.e, .slice y.x.C y.x.f y.x.g] 48)) w.heap.size y := heap_alloc_new w _
theorem CAt.alloc {w : World} {b : Nat} {y : Cx} (h : CAt w b y) (o : Obj) : CAt (w.alloc o) b y := (Below.heap_alloc w o b h.lt).trans h
theorem CAt.below {w w' : World} {b B : Nat} {y : Cx} (h : CAt w b y) (hb : Below B w w') (hg : b < B) : CAt w' b y := (hb.block b hg).trans h
theorem CAt.later {w w' : World} {b : Nat} {y : Cx} (h : CAt w b y) (hb : Below w.heap.size w w') : CAt w' b y := h.below hb h.lt
theorem CAt.fz {w : World} {b : Nat} {y : Cx} (h : CAt w b y) (j : Nat) : w.frozen? ⟨b, j, none⟩ = false := frozen_of_row w b j _ _ h
theorem CAt.turn {w w' : World} {g b : Nat} {mg : Option Nat} {y : Cx} (h : CAt w g y) (ht : Turn w w' b mg) (h1 : g ≠ b) (h2 : some g ≠ mg) : CAt w' g y := (ht.block g h.lt h1 h2).trans h
theorem CAt.far {w : World} {b : Nat} {y : Cx} (h : CAt w b y) {a : Addr} (u : Value) (ha : b ≠ a.block) : CAt (w.setCell a u) b y := (heap_setCell_other w a b u ha).trans h
structure CSmall (y : Cx) : Prop where
  n : y.n ≤ 400
  v : VSmall y.x
section
variable {H : Type} {enc : TypeId × Value → H} {w : World} {base : Nat}
end
end Go.Proofs.YtjmkecaljkcoiaaGreatDoor
