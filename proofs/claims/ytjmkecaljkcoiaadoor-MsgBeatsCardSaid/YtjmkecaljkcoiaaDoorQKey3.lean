import Derived.Deep.Strs
import Derived.Test.YtjmkecaljkcoiaaDoorQOpenF
import Derived.Test.YtjmkecaljkcoiaaDoorQSortM
import Derived.Test.YtjmkecaljkcoiaaDoorQViewM
import Derived.Maps.Own
import Derived.Maps.OwnSet
import Derived.Maps.OwnOps
import Derived.DeepKeys4
import Derived.Maps.Keyed
namespace Go.Proofs.YtjmkecaljkcoiaaDoor
open Go.ChangeShapes Go.WideShapes Go.RowKit
set_option linter.unusedVariables false
set_option linter.unusedSimpArgs false
structure Lf where
  A : Option Addr
  m : Nat
  c : Nat
  l : List Pr
def lfC (x : Lf) : List Value := [.slice x.A x.m x.c]
theorem lfOk : EncOk lfC 1 := ⟨fun _ => rfl, fun p v hv => by simp [lfC] at hv; rcases hv with rfl; rfl, by decide⟩
structure LfIn (w : World) (B0 : Nat) (x : Lf) : Prop where
  es : Es prC w B0 x.A x.m x.l
  mc : x.m ≤ x.c
  room : x.c ≤ maxLen
theorem LfIn.below {w w' : World} {B0 : Nat} {x : Lf} (h : LfIn w B0 x) (hb : Below B0 w w') : LfIn w' B0 x := ⟨h.es.below hb, h.mc, h.room⟩
theorem LfIn.more {w : World} {B0 B1 : Nat} {x : Lf} (h : LfIn w B0 x) (hb : B0 ≤ B1) : LfIn w B1 x := ⟨h.es.more hb, h.mc, h.room⟩
structure Vw where
  id : Nat
  A : Option Addr
  m : Nat
  c : Nat
  l : List Pr
  B : Option Addr
  d : Nat
  e : Nat
  q : List Lf
  C : Option Addr
  f : Nat
  g : Nat
  r : List Pr
def Vw.v (x : Vw) : Vi := ⟨x.id, x.l, x.q.map Lf.l, x.r⟩
def vwC (x : Vw) : List Value := [.int .u64 (x.id : Int), .slice x.A x.m x.c, .slice x.B x.d x.e, .slice x.C x.f x.g]
structure VwIn (w : World) (B0 : Nat) (x : Vw) : Prop where
  hid : x.id < 18446744073709551616
  es : Es prC w B0 x.A x.m x.l
  mc : x.m ≤ x.c
  room : x.c ≤ maxLen
  lv : Es lfC w B0 x.B x.d x.q
  de : x.d ≤ x.e
  room2 : x.e ≤ maxLen
  each : ∀ y ∈ x.q, LfIn w B0 y
  dr : Es prC w B0 x.C x.f x.r
  fg : x.f ≤ x.g
  room3 : x.g ≤ maxLen
theorem VwIn.below {w w' : World} {B0 : Nat} {x : Vw} (h : VwIn w B0 x) (hb : Below B0 w w') : VwIn w' B0 x := ⟨h.hid, h.es.below hb, h.mc, h.room, h.lv.below hb, h.de, h.room2, fun y hy => (h.each y hy).below hb, h.dr.below hb, h.fg, h.room3⟩
theorem VwIn.more {w : World} {B0 B1 : Nat} {x : Vw} (h : VwIn w B0 x) (hb : B0 ≤ B1) : VwIn w B1 x := ⟨h.hid, h.es.more hb, h.mc, h.room, h.lv.more hb, h.de, h.room2, fun y hy => (h.each y hy).more hb, h.dr.more hb, h.fg, h.room3⟩
theorem VwIn.alloc {w : World} {B0 : Nat} {x : Vw} (h : VwIn w B0 x) (hB : B0 ≤ w.heap.size) (o : Obj) : VwIn (w.alloc o) B0 x := h.below ((Below.refl _ _).alloc hB o)
def Views0 (w : World) (A : Option Addr) (n c : Nat) (l : List Vw) : Prop := Es vwC w w.heap.size A n l ∧ n ≤ c ∧ c ≤ maxLen ∧ ∀ a ∈ l, VwIn w w.heap.size a
theorem cells_pidsV : Tryd.prog.cellsOf 30 = 1 := by kernel_rfl
section
variable {H : Type} {enc : TypeId × Value → H} {w : World} {base : Nat} {spare : Nat → Bool} {held : Bool}
theorem pids_cell {fuel : Nat} {v : Value} {x : DataW H × List MemPlace} (h : DataW.trod enc Tryd.prog w base spare held fuel 30 [v] = some x) : ∃ y : Lf, v = .slice y.A y.m y.c ∧ LfIn w w.heap.size y := by
  obtain ⟨A, m, e, he⟩ : ∃ A m e, v = .slice A m e := by
    rcases open_pids h with e2 | ⟨ad, len, cap, e2, _⟩
    · simp only [List.cons.injEq, and_true] at e2; exact ⟨_, _, _, e2⟩
    · simp only [List.cons.injEq, and_true] at e2; exact ⟨_, _, _, e2⟩
  subst he
  obtain ⟨ps, h7, h8, h9⟩ := pids_row (open_pids h) rfl
  exact ⟨⟨A, m, e, ps⟩, rfl, h7, h8, h9⟩
end
theorem lf_at {w : World} {ad : Addr} {j : Nat} {q : Lf} (hc : ∀ i v, (lfC q)[i]? = some v → w.cell? (ad.add (j * 1 + i)) = some v) : w.cell? (ad.add j) = some (.slice q.A q.m q.c) := by
  have h := hc 0 _ rfl
  rwa [show j * 1 + 0 = j from by omega] at h
def VAt (w : World) (b : Nat) (x : Vw) : Prop := w.heap[b]? = some (.cells #[.int .u64 (x.id : Int), .slice x.A x.m x.c, .slice x.B x.d x.e, .slice x.C x.f x.g] 33)
structure VSmall (x : Vw) : Prop where
  m : x.m ≤ 40
  d : x.d ≤ 40
  f : x.f ≤ 40
  each : ∀ y ∈ x.q, y.m ≤ 40
def LSmall (l : List Lf) (j : Nat) : Prop := ∀ a ∈ l.take j, a.m ≤ 40
theorem LSmall.step {l : List Lf} {j : Nat} (h : LSmall l j) (hj : j < l.length) (ha : l[j].m ≤ 40) : LSmall l (j + 1) := by
  unfold LSmall at *
  rw [List.take_succ_eq_append_getElem hj]
  intro a h'
  rw [List.mem_append, List.mem_singleton] at h'
  exact h'.elim (h a) (fun e => e ▸ ha)
theorem LSmall.done {l : List Lf} {j : Nat} (h : LSmall l j) (hj : l.length ≤ j) : ∀ a ∈ l, a.m ≤ 40 := by
  unfold LSmall at h
  rwa [List.take_of_length_le hj] at h
def Great8P (w : World) (x : Vw) (e : Ending) (w' : World) : Prop := ∃ b : Bool, e = .returned (.bool b) ∧ (b = false → VSmall x) ∧ Below w.heap.size w w'
end Go.Proofs.YtjmkecaljkcoiaaDoor
namespace Go.Proofs.YtjmkecaljkcoiaaDoor
open Go.ChangeShapes Go.WideShapes Go.RowKit
set_option linter.unusedVariables false
set_option linter.unusedSimpArgs false
structure Bt where
  v : Nat
  a : Nat
  l : Nat
  s : Nat
  q : List Pr
structure Bx where
  v : Nat
  a : Nat
  l : Nat
  s : Nat
  A : Option Addr
  n : Nat
  c : Nat
  q : List Pr
def Bx.m (x : Bx) : Bt := ⟨x.v, x.a, x.l, x.s, x.q⟩
structure BxIn (w : World) (B0 : Nat) (x : Bx) : Prop where
  hv : x.v < 18446744073709551616
  ha : x.a < 18446744073709551616
  hl : x.l < 18446744073709551616
  hs : x.s < 18446744073709551616
  es : Es prC w B0 x.A x.n x.q
  nc : x.n ≤ x.c
  room : x.c ≤ maxLen
theorem BxIn.below {w w' : World} {B0 : Nat} {x : Bx} (h : BxIn w B0 x) (hb : Below B0 w w') : BxIn w' B0 x := ⟨h.hv, h.ha, h.hl, h.hs, h.es.below hb, h.nc, h.room⟩
theorem BxIn.more {w : World} {B0 B1 : Nat} {x : Bx} (h : BxIn w B0 x) (hb : B0 ≤ B1) : BxIn w B1 x := ⟨h.hv, h.ha, h.hl, h.hs, h.es.more hb, h.nc, h.room⟩
def BAt (w : World) (b : Nat) (x : Bx) : Prop := w.heap[b]? = some (.cells #[.int .u64 (x.v : Int), .int .u64 (x.a : Int), .int .u64 (x.l : Int), .int .u64 (x.s : Int), .slice x.A x.n x.c] 52)
theorem cells_beat : Tryd.prog.cellsOf 52 = 5 := by kernel_rfl
section
variable {H : Type} {enc : TypeId × Value → H} {w : World} {base : Nat} {spare : Nat → Bool} {held : Bool}
set_option maxRecDepth 100000 in
theorem open_beat {r : Reach} {b0 : Nat} {v : Value} {d : DataW H} {p : List MemPlace} (hv : Value.okWide Tryd.prog w r b0 52 v) (h : DataW.Trod enc Tryd.prog w base spare held 52 v d p) :
    ∃ x : Bx, v = .agg #[.int .u64 (x.v : Int), .int .u64 (x.a : Int), .int .u64 (x.l : Int), .int .u64 (x.s : Int), .slice x.A x.n x.c] ∧ BxIn w w.heap.size x := by
  obtain ⟨cs, rfl, _⟩ := okWide_struct Tryd.underlying52 hv
  obtain ⟨fuel, hf⟩ := h
  obtain ⟨y0, y1, y2, y3, y4, n, hl, h0, h1, h2, h3, h4⟩ := trod_struct5 Tryd.underlying52 hf
  rw [cells_beat] at hl
  obtain ⟨l⟩ := cs
  simp only [Value.cells] at hl h0 h1 h2 h3 h4
  match l, hl with
  | [a0, a1, a2, a3, a4], _ =>
    simp only [cells_u64, cells_pidsV, List.drop_zero, List.drop_succ_cons, List.take_succ_cons, List.take_zero] at h0 h1 h2 h3 h4
    obtain ⟨i0, e0, g0⟩ := u64_cell h0
    obtain ⟨i1, e1, g1⟩ := u64_cell h1
    obtain ⟨i2, e2, g2⟩ := u64_cell h2
    obtain ⟨i3, e3, g3⟩ := u64_cell h3
    obtain ⟨y, e4, hy⟩ := pids_cell h4
    simp only [List.cons.injEq, and_true] at e0 e1 e2 e3
    subst e0 e1 e2 e3 e4
    exact ⟨⟨i0, i1, i2, i3, y.A, y.m, y.c, y.l⟩, rfl, ⟨g0, g1, g2, g3, hy.es, hy.mc, hy.room⟩⟩
end
theorem bt_eq (a b : Bt) : a = b ↔ a.v = b.v ∧ a.a = b.a ∧ a.l = b.l ∧ a.s = b.s ∧ a.q = b.q := by
  constructor
  · rintro rfl; exact ⟨rfl, rfl, rfl, rfl, rfl⟩
  · rintro ⟨h0, h1, h2, h3, h4⟩
    cases a; cases b; simp_all
end Go.Proofs.YtjmkecaljkcoiaaDoor
namespace Go.Proofs.YtjmkecaljkcoiaaDoor
open Go.RowKit
set_option linter.unusedVariables false
set_option linter.unusedSimpArgs false
theorem NotIn.hit {p : Pr} {l : List Pr} {j : Nat} (h : NotIn p l j) (hj : j < l.length) (he : l[j] = p) : atI l p = (j : Int) := by
  have hm : p ∈ l := he ▸ List.getElem_mem hj
  rw [atI_in hm]
  have := plc_first hj (he ▸ h)
  rw [he] at this
  rw [this]
theorem NotIn.out_ {p : Pr} {l : List Pr} {j : Nat} (h : NotIn p l j) (hj : l.length ≤ j) : atI l p = -1 := by
  unfold NotIn at h
  rw [List.take_of_length_le hj] at h
  exact atI_no h
def mayP (p : Pr) : Bool := decide (p.i < 16) && decide (0 < p.k)
set_option maxRecDepth 100000 in
theorem may_any (p : Pr) (w : World) :
    Calls Tryd.prog 76 #[.agg #[.int .u16 (p.i : Int), .int .u32 (p.k : Int)]] w fun e w' => e = .returned (.bool (mayP p)) ∧ Below w.heap.size w w' := by
  have hbz : Below w.heap.size w (w.alloc (.cells #[.int .u16 (p.i : Int), .int .u32 (p.k : Int)] 25)) := (Below.refl _ _).alloc (Nat.le_refl _) _
  unfold mayP
  by_cases h : p.i < 16
  · have h1 : decide ((p.i : Int) < 16) = true := decide_eq_true (by omega)
    rw [decide_eq_true h]
    by_cases h' : p.k = 0
    · rw [show decide (0 < p.k) = false from decide_eq_false (by omega)]
      have h2 : ((p.k : Int) != 0) = false := by rw [h']; rfl
      clear h'
      go_enter Tryd.func76, Tryd.ntmps76
      go_wp2
      go_ret
      exact ⟨rfl, hbz⟩
    · rw [show decide (0 < p.k) = true from decide_eq_true (by omega)]
      have h2 : ((p.k : Int) != 0) = true := by simp only [bne_iff_ne, ne_eq]; omega
      go_enter Tryd.func76, Tryd.ntmps76
      go_wp2
      go_ret
      exact ⟨rfl, hbz⟩
  · have h1 : decide ((p.i : Int) < 16) = false := decide_eq_false (by omega)
    rw [decide_eq_false h]
    go_enter Tryd.func76, Tryd.ntmps76
    go_wp2
    go_ret
    exact ⟨rfl, hbz⟩
set_option maxRecDepth 100000 in
theorem rmay_any (p : Pr) (w : World) :
    Calls Tryd.prog 30 #[.agg #[.int .u16 (p.i : Int), .int .u32 (p.k : Int)]] w fun e w' => e = .returned (.bool (mayP p)) ∧ Below w.heap.size w w' := by
  have hbz : Below w.heap.size w (w.alloc (.cells #[.int .u16 (p.i : Int), .int .u32 (p.k : Int)] 25)) := (Below.refl _ _).alloc (Nat.le_refl _) _
  unfold mayP
  by_cases h : p.i < 16
  · have h1 : decide ((p.i : Int) < 16) = true := decide_eq_true (by omega)
    rw [decide_eq_true h]
    by_cases h' : 0 < p.k
    · rw [decide_eq_true h']
      have h2 : decide ((0 : Int) < (p.k : Int)) = true := decide_eq_true (by omega)
      go_enter Tryd.func30, Tryd.ntmps30
      go_wp2
      go_ret
      exact ⟨rfl, hbz⟩
    · rw [decide_eq_false h']
      have h2 : decide ((0 : Int) < (p.k : Int)) = false := decide_eq_false (by omega)
      go_enter Tryd.func30, Tryd.ntmps30
      go_wp2
      go_ret
      exact ⟨rfl, hbz⟩
  · have h1 : decide ((p.i : Int) < 16) = false := decide_eq_false (by omega)
    rw [decide_eq_false h]
    go_enter Tryd.func30, Tryd.ntmps30
    go_wp2
    go_ret
    exact ⟨rfl, hbz⟩
end Go.Proofs.YtjmkecaljkcoiaaDoor
namespace Go.Proofs.YtjmkecaljkcoiaaDoor
open Go.RowKit Go.Maps
set_option linter.unusedVariables false
set_option linter.unusedSimpArgs false
theorem rowPid : (25 : TypeId) < Tryd.prog.types.size := of_decide_eq_true (by kernel_rfl)
theorem widePid : (match Tryd.prog.underlying 25 with | some (.array _ _) | some (.struct _) => true | _ => false) = true := by kernel_rfl
set_option maxRecDepth 100000 in
theorem lawPid : Keyed Tryd.prog 25 := Keyed.of_law (deep_law_laid laidOut (m := 3) (by omega) rowPid (by kernel_rfl) widePid)
def Pr.key (p : Pr) : Lit := .string (keyBytes [.int .u16 (p.i : Int), .int .u32 (p.k : Int)])
theorem wf_pr16 (p : Pr) : (Lit.int .u16 (p.i : Int)).wf = true := by
  have := p.hi
  simp [Lit.wf, IntKind.min, IntKind.max, IntKind.bits, IntKind.signed]; omega
theorem wf_pr32 (p : Pr) : (Lit.int .u32 (p.k : Int)).wf = true := by
  have := p.hk
  simp [Lit.wf, IntKind.min, IntKind.max, IntKind.bits, IntKind.signed]; omega
theorem keyTypePid : Tryd.prog.keyType 25 = true := by kernel_rfl
theorem cellsPid : Tryd.prog.cellsOf 25 = 2 := by kernel_rfl
theorem cellsU16 : Tryd.prog.cellsOf 22 = 1 := by kernel_rfl
theorem cellsU32 : Tryd.prog.cellsOf 23 = 1 := by kernel_rfl
theorem nat_pos {n j : Nat} (h : j < n) : ∃ m, n = m + 1 := ⟨n - 1, by omega⟩
theorem typesPos : ∃ m, Tryd.prog.types.size = m + 1 := nat_pos rowPid
theorem key_pr (p : Pr) : keyOf Tryd.prog 25 (.agg #[.int .u16 (p.i : Int), .int .u32 (p.k : Int)]) = some p.key := by
  obtain ⟨m, hm⟩ := typesPos
  have h1 := wf_pr16 p
  have h2 := wf_pr32 p
  unfold keyOf
  simp only [Tryd.underlying25]
  rw [if_pos (by simp [keyTypePid, Value.formed, Tryd.underlying25, cellsPid]), hm]
  unfold Program.keyLits
  simp [Tryd.underlying25, Value.cells, cellsPid, cellsU16, cellsU32, Program.keyLits, Tryd.underlying22, Tryd.underlying23, h1, h2, Pr.key]
theorem Pr.key_inj {p q : Pr} (h : p.key = q.key) : p = q := by
  have e := lawPid.inj (key_pr p) (by rw [h]; exact key_pr q)
  simp only [Value.agg.injEq, Array.mk.injEq, List.cons.injEq, Value.int.injEq, true_and, and_true] at e
  exact Pr.ext (by omega) (by omega)
def SetP (w : World) (b n : Nat) (acc : List Pr) : Prop := ∃ D : DataW Unit, w.ownsMap Tryd.prog 25 unitElem b n D ∧ ∀ p : Pr, Maps.has D p.key = decide (p ∈ acc)
theorem SetP.made (w : World) : SetP (w.alloc (.map #[] 0)) w.heap.size 0 [] := ⟨.map [], World.ownsMap_made _ _ _ _, fun p => by simp [Maps.has]⟩
theorem SetP.alloc {w : World} {b n : Nat} {acc : List Pr} (h : SetP w b n acc) (o : Obj) : SetP (w.alloc o) b n acc := by
  obtain ⟨D, h1, h2⟩ := h
  exact ⟨D, h1.alloc o, h2⟩
theorem SetP.put {w w' : World} {b n m : Nat} {acc : List Pr} {D : DataW Unit} {q : Pr} (hD : w.ownsMap Tryd.prog 25 unitElem b n D) (hh : ∀ p : Pr, Maps.has D p.key = decide (p ∈ acc)) (d : DataW Unit)
    (h' : w'.ownsMap Tryd.prog 25 unitElem b m (D.put q.key d)) : SetP w' b m (acc ++ [q]) := by
  refine ⟨_, h', fun p => ?_⟩
  by_cases e : p = q
  · subst e
    rw [has_put_same hD.isMap (lawPid.key (key_pr p)) d]
    simp
  · rw [has_put_other (fun e' => e (Pr.key_inj e')) d, hh p]
    simp [e]
theorem SetP.grown {w w' : World} {b n : Nat} {acc : List Pr} {row : Option Nat} (h : SetP w b n acc) (hg : w.grownBy w' row) (hne : some b ≠ row) : SetP w' b n acc := by
  obtain ⟨D, h1, h2⟩ := h
  exact ⟨D, h1.kept hg hne, h2⟩
theorem SetP.mono {w : World} {b n m : Nat} {acc : List Pr} (h : SetP w b n acc) (hn : n ≤ m) : SetP w b m acc := by
  obtain ⟨D, h1, h2⟩ := h
  exact ⟨D, h1.mono hn, h2⟩
end Go.Proofs.YtjmkecaljkcoiaaDoor
