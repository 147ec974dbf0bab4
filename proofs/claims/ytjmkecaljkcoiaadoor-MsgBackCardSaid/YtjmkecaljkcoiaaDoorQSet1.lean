import Derived.Test.YtjmkecaljkcoiaaDoorQOpenV
import Derived.Maps.Own
import Derived.Maps.OwnSet
import Derived.Maps.OwnOps
import Derived.DeepKeys4
import Derived.Maps.Keyed
import Derived.Test.YtjmkecaljkcoiaaDoorQPr
import Derived.Laws.AppendOwn
import Derived.Test.YtjmkecaljkcoiaaDoorQOpenF
import Derived.Maps.RangeWalk
import Derived.Test.YtjmkecaljkcoiaaDoorQMaskM
namespace Go.Proofs.YtjmkecaljkcoiaaDoor
open Go.RowKit
set_option linter.unusedVariables false
set_option linter.unusedSimpArgs false
theorem NotIn.hit {p : Pr} {l : List Pr} {j : Nat} (h : NotIn p l j) (hj : j < l.length) (he : l[j] = p) : atI l p = (j : Int) := by
  have hm : p ∈ l := he ▸ List.getElem_mem hj
  rw [atI_in hm]
  have := plc_first hj (he ▸ h)
  rw [he] at this
  rw [this]
theorem NotIn.out_ {p : Pr} {l : List Pr} {j : Nat} (h : NotIn p l j) (hj : l.length ≤ j) : atI l p = -1 := by
  unfold NotIn at h
  rw [List.take_of_length_le hj] at h
  exact atI_no h
def mayP (p : Pr) : Bool := decide (p.i < 16) && decide (0 < p.k)
set_option maxRecDepth 100000 in
theorem may_any (p : Pr) (w : World) :
    Calls Tryd.prog 76 #[.agg #[.int .u16 (p.i : Int), .int .u32 (p.k : Int)]] w fun e w' => e = .returned (.bool (mayP p)) ∧ Below w.heap.size w w' := by
  have hbz : Below w.heap.size w (w.alloc (.cells #[.int .u16 (p.i : Int), .int .u32 (p.k : Int)] 25)) := (Below.refl _ _).alloc (Nat.le_refl _) _
  unfold mayP
  by_cases h : p.i < 16
  · have h1 : decide ((p.i : Int) < 16) = true := decide_eq_true (by omega)
    rw [decide_eq_true h]
    by_cases h' : p.k = 0
    · rw [show decide (0 < p.k) = false from decide_eq_false (by omega)]
      have h2 : ((p.k : Int) != 0) = false := by rw [h']; rfl
      clear h'
      go_enter Tryd.func76, Tryd.ntmps76
      go_wp2
      go_ret
      exact ⟨rfl, hbz⟩
    · rw [show decide (0 < p.k) = true from decide_eq_true (by omega)]
      have h2 : ((p.k : Int) != 0) = true := by simp only [bne_iff_ne, ne_eq]; omega
      go_enter Tryd.func76, Tryd.ntmps76
      go_wp2
      go_ret
      exact ⟨rfl, hbz⟩
  · have h1 : decide ((p.i : Int) < 16) = false := decide_eq_false (by omega)
    rw [decide_eq_false h]
    go_enter Tryd.func76, Tryd.ntmps76
    go_wp2
    go_ret
    exact ⟨rfl, hbz⟩
end Go.Proofs.YtjmkecaljkcoiaaDoor
namespace Go.Proofs.YtjmkecaljkcoiaaDoor
open Go.RowKit Go.Maps
set_option linter.unusedVariables false
set_option linter.unusedSimpArgs false
theorem rowPid : (25 : TypeId) < Tryd.prog.types.size := of_decide_eq_true (by kernel_rfl)
theorem widePid : (match Tryd.prog.underlying 25 with | some (.array _ _) | some (.struct _) => true | _ => false) = true := by kernel_rfl
set_option maxRecDepth 100000 in
theorem lawPid : Keyed Tryd.prog 25 := Keyed.of_law (deep_law_laid laidOut (m := 3) (by omega) rowPid (by kernel_rfl) widePid)
def Pr.key (p : Pr) : Lit := .string (keyBytes [.int .u16 (p.i : Int), .int .u32 (p.k : Int)])
theorem wf_pr16 (p : Pr) : (Lit.int .u16 (p.i : Int)).wf = true := by
  have := p.hi
  simp [Lit.wf, IntKind.min, IntKind.max, IntKind.bits, IntKind.signed]; omega
theorem wf_pr32 (p : Pr) : (Lit.int .u32 (p.k : Int)).wf = true := by
  have := p.hk
  simp [Lit.wf, IntKind.min, IntKind.max, IntKind.bits, IntKind.signed]; omega
theorem keyTypePid : Tryd.prog.keyType 25 = true := by kernel_rfl
theorem cellsPid : Tryd.prog.cellsOf 25 = 2 := by kernel_rfl
theorem cellsU16 : Tryd.prog.cellsOf 22 = 1 := by kernel_rfl
theorem cellsU32 : Tryd.prog.cellsOf 23 = 1 := by kernel_rfl
theorem nat_pos {n j : Nat} (h : j < n) : ∃ m, n = m + 1 := ⟨n - 1, by omega⟩
theorem typesPos : ∃ m, Tryd.prog.types.size = m + 1 := nat_pos rowPid
theorem key_pr (p : Pr) : keyOf Tryd.prog 25 (.agg #[.int .u16 (p.i : Int), .int .u32 (p.k : Int)]) = some p.key := by
  obtain ⟨m, hm⟩ := typesPos
  have h1 := wf_pr16 p
  have h2 := wf_pr32 p
  unfold keyOf
  simp only [Tryd.underlying25]
  rw [if_pos (by simp [keyTypePid, Value.formed, Tryd.underlying25, cellsPid]), hm]
  unfold Program.keyLits
  simp [Tryd.underlying25, Value.cells, cellsPid, cellsU16, cellsU32, Program.keyLits, Tryd.underlying22, Tryd.underlying23, h1, h2, Pr.key]
theorem Pr.key_inj {p q : Pr} (h : p.key = q.key) : p = q := by
  have e := lawPid.inj (key_pr p) (by rw [h]; exact key_pr q)
  simp only [Value.agg.injEq, Array.mk.injEq, List.cons.injEq, Value.int.injEq, true_and, and_true] at e
  exact Pr.ext (by omega) (by omega)
def SetP (w : World) (b n : Nat) (acc : List Pr) : Prop := ∃ D : DataW Unit, w.ownsMap Tryd.prog 25 unitElem b n D ∧ ∀ p : Pr, Maps.has D p.key = decide (p ∈ acc)
theorem SetP.made (w : World) : SetP (w.alloc (.map #[] 0)) w.heap.size 0 [] := ⟨.map [], World.ownsMap_made _ _ _ _, fun p => by simp [Maps.has]⟩
theorem SetP.alloc {w : World} {b n : Nat} {acc : List Pr} (h : SetP w b n acc) (o : Obj) : SetP (w.alloc o) b n acc := by
  obtain ⟨D, h1, h2⟩ := h
  exact ⟨D, h1.alloc o, h2⟩
theorem SetP.put {w w' : World} {b n m : Nat} {acc : List Pr} {D : DataW Unit} {q : Pr} (hD : w.ownsMap Tryd.prog 25 unitElem b n D) (hh : ∀ p : Pr, Maps.has D p.key = decide (p ∈ acc)) (d : DataW Unit)
    (h' : w'.ownsMap Tryd.prog 25 unitElem b m (D.put q.key d)) : SetP w' b m (acc ++ [q]) := by
  refine ⟨_, h', fun p => ?_⟩
  by_cases e : p = q
  · subst e
    rw [has_put_same hD.isMap (lawPid.key (key_pr p)) d]
    simp
  · rw [has_put_other (fun e' => e (Pr.key_inj e')) d, hh p]
    simp [e]
theorem SetP.grown {w w' : World} {b n : Nat} {acc : List Pr} {row : Option Nat} (h : SetP w b n acc) (hg : w.grownBy w' row) (hne : some b ≠ row) : SetP w' b n acc := by
  obtain ⟨D, h1, h2⟩ := h
  exact ⟨D, h1.kept hg hne, h2⟩
theorem SetP.mono {w : World} {b n m : Nat} {acc : List Pr} (h : SetP w b n acc) (hn : n ≤ m) : SetP w b m acc := by
  obtain ⟨D, h1, h2⟩ := h
  exact ⟨D, h1.mono hn, h2⟩
end Go.Proofs.YtjmkecaljkcoiaaDoor
namespace Go.Proofs.YtjmkecaljkcoiaaDoor
open Go.RowKit
set_option linter.unusedVariables false
structure Turn (w w' : World) (b : Nat) (mg : Option Nat) : Prop where
  os : w'.os = w.os
  tape : w'.tape = w.tape
  output : w'.output = w.output
  size : w.heap.size ≤ w'.heap.size
  block : ∀ i, i < w.heap.size → i ≠ b → some i ≠ mg → w'.heap[i]? = w.heap[i]?
def Mov (w : World) (mg mg' : Option Nat) : Prop := mg' = mg ∨ ∃ g, mg' = some g ∧ w.heap.size ≤ g
section
variable {w w' w2 : World} {b g : Nat} {mg mg' mg2 : Option Nat}
theorem Turn.refl (w : World) (b : Nat) (mg : Option Nat) : Turn w w b mg := ⟨rfl, rfl, rfl, Nat.le_refl _, fun _ _ _ _ => rfl⟩
theorem Turn.of_below (h : Below w.heap.size w w') (b : Nat) (mg : Option Nat) : Turn w w' b mg := ⟨h.os, h.tape, h.output, h.size, fun i hi _ _ => h.block i hi⟩
theorem Turn.of_grown {row : Option Nat} (h : w.grownBy w' row) (hr : ∀ i, row = some i → i = b ∨ some i = mg ∨ w.heap.size ≤ i) : Turn w w' b mg :=
  ⟨h.os, h.tape, h.output, h.size, fun i hi h1 h2 => h.block i hi fun e => by
    rcases hr i e.symm with h | h | h
    · exact h1 h
    · exact h2 h
    · omega⟩
theorem Turn.trans (h : Turn w w' b mg) (k : Turn w' w2 b mg') (hm : Mov w mg mg') : Turn w w2 b mg :=
  ⟨k.os.trans h.os, k.tape.trans h.tape, k.output.trans h.output, Nat.le_trans h.size k.size, fun i hi h1 h2 => (k.block i (Nat.lt_of_lt_of_le hi h.size) h1 fun e => by
    rcases hm with rfl | ⟨g, rfl, hg⟩
    · exact h2 e
    · injection e with e; omega).trans (h.block i hi h1 h2)⟩
theorem Mov.refl (w : World) (mg : Option Nat) : Mov w mg mg := .inl rfl
theorem Mov.trans (h : Mov w mg mg') (k : Mov w' mg' mg2) (hs : w.heap.size ≤ w'.heap.size) : Mov w mg mg2 := by
  rcases k with rfl | ⟨g, rfl, hg⟩
  · exact h
  · exact .inr ⟨g, rfl, by omega⟩
theorem Mov.base {base : Nat} (h : Mov w mg mg') (hm : ∀ g, mg = some g → base ≤ g) (hb : base ≤ w.heap.size) : ∀ g, mg' = some g → base ≤ g := by
  intro g hg
  rcases h with rfl | ⟨g', rfl, hg'⟩
  · exact hm g hg
  · injection hg with e; omega
theorem Turn.below {B : Nat} (h : Turn w w' b mg) (hB : B ≤ w.heap.size) (hb : B ≤ b) (hm : ∀ g, mg = some g → B ≤ g) : Below B w w' :=
  ⟨h.os, h.tape, h.output, h.size, fun i hi => h.block i (by omega) (by omega) fun e => by have := hm i e.symm; omega⟩
theorem Turn.set_ (h : Turn w w' b mg) {p : Addr} (hp : p.block = b) (u : Value) : Turn w (w'.setCell p u) b mg :=
  ⟨h.os, h.tape, h.output, Nat.le_trans h.size (by simp), fun i hi h1 h2 => (Below.heap_setCell w' p u i (by rw [hp]; exact h1)).trans (h.block i hi h1 h2)⟩
theorem Turn.setNew (h : Turn w w' b mg) {p : Addr} (hp : w.heap.size ≤ p.block) (u : Value) : Turn w (w'.setCell p u) b mg :=
  ⟨h.os, h.tape, h.output, Nat.le_trans h.size (by simp), fun i hi h1 h2 => (Below.heap_setCell w' p u i (by omega)).trans (h.block i hi h1 h2)⟩
theorem Turn.alloc (h : Turn w w' b mg) (o : Obj) : Turn w (w'.alloc o) b mg :=
  ⟨h.os, h.tape, h.output, Nat.le_trans h.size (by simp), fun i hi h1 h2 => (Below.heap_alloc w' o i (Nat.lt_of_lt_of_le hi h.size)).trans (h.block i hi h1 h2)⟩
theorem Turn.drew (h : Turn w w' b mg) : Turn w w'.drew b mg := ⟨h.os, h.tape, h.output, h.size, h.block⟩
theorem Turn.later (h : Turn w w' b mg) (k : Below w'.heap.size w' w2) : Turn w w2 b mg :=
  ⟨k.os.trans h.os, k.tape.trans h.tape, k.output.trans h.output, Nat.le_trans h.size k.size, fun i hi h1 h2 => (k.block i (Nat.lt_of_lt_of_le hi h.size)).trans (h.block i hi h1 h2)⟩
theorem Turn.ahead (h : Below w.heap.size w w') (k : Turn w' w2 b mg) : Turn w w2 b mg :=
  ⟨k.os.trans h.os, k.tape.trans h.tape, k.output.trans h.output, Nat.le_trans h.size k.size, fun i hi h1 h2 => (k.block i (Nat.lt_of_lt_of_le hi h.size) h1 h2).trans (h.block i hi)⟩
theorem Turn.cell (h : Turn w w' b mg) {p : Addr} {v : Value} (hc : w.cell? p = some v) (h1 : p.block ≠ b) (h2 : some p.block ≠ mg) : w'.cell? p = some v :=
  (World.cell?_of_block (h.block p.block (World.block_lt_of_cell? w p hc) h1 h2)).trans hc
end
end Go.Proofs.YtjmkecaljkcoiaaDoor
namespace Go.Proofs.YtjmkecaljkcoiaaDoor
open Go.RowKit Go.Maps
set_option linter.unusedVariables false
set_option linter.unusedSimpArgs false
def SetD (w : World) (g : Nat) (acc : List Pr) : Prop :=
  ∃ D : DataW Unit, w.ownsMap Tryd.prog 25 unitElem g acc.length D ∧ (∀ p : Pr, Maps.has D p.key = decide (p ∈ acc)) ∧ Maps.size D = acc.length ∧ acc.Nodup
theorem ownsMap_tight {P : Program} {k : TypeId} {R : Value → Option (DataW Unit × List MemPlace)} {w : World} {b n m : Nat} {D : DataW Unit} (h : w.ownsMap P k R b n D) (hm : Maps.size D ≤ m) : w.ownsMap P k R b m D := by
  obtain ⟨es, clock, hb, F, hs, hD⟩ := h
  refine ⟨es, clock, hb, F, ?_, hD⟩
  subst hD
  simpa [Maps.size, length_sorted] using hm
theorem keyLit (p : Pr) : WideAt.IsKeyLit p.key := lawPid.key (key_pr p)
section
variable {w w' : World} {b g : Nat} {mg : Option Nat} {acc l : List Pr}
theorem SetD.lt (h : SetD w g acc) : g < w.heap.size := by
  obtain ⟨D, h1, _⟩ := h
  exact h1.lt
theorem SetD.block (h : SetD w g acc) (hb : w'.heap[g]? = w.heap[g]?) : SetD w' g acc := by
  obtain ⟨D, ⟨es, clock, h1, r⟩, h2⟩ := h
  exact ⟨D, ⟨es, clock, hb.trans h1, r⟩, h2⟩
theorem SetD.nodup (h : SetD w g acc) : acc.Nodup := by
  obtain ⟨D, _, _, _, h⟩ := h
  exact h
theorem SetD.same (h : SetD w g acc) (hn : l.Nodup) (hm : ∀ p, p ∈ l ↔ p ∈ acc) : SetD w g l := by
  obtain ⟨D, h1, h2, h3, h4⟩ := h
  have e : l.length = acc.length := ((List.perm_ext_iff_of_nodup hn h4).2 hm).length_eq
  exact ⟨D, by rw [e]; exact h1, fun p => by rw [h2 p, decide_eq_decide.2 (hm p).symm], by rw [e]; exact h3, hn⟩
theorem SetD.made (w : World) : SetD (w.alloc (.map #[] 0)) w.heap.size [] := ⟨.map [], World.ownsMap_made _ _ _ _, fun p => by simp [Maps.has], rfl, List.nodup_nil⟩
theorem SetD.put {n : Nat} {D : DataW Unit} {q : Pr} (hD : w.ownsMap Tryd.prog 25 unitElem g n D) (hh : ∀ p : Pr, Maps.has D p.key = decide (p ∈ acc)) (hs : Maps.size D = acc.length) (hn : acc.Nodup) (hq : q ∉ acc) (d : DataW Unit) {m : Nat}
    (h' : w'.ownsMap Tryd.prog 25 unitElem g m (D.put q.key d)) : SetD w' g (acc ++ [q]) := by
  have e1 : Maps.size (D.put q.key d) = (acc ++ [q]).length := by
    rw [size_put (hD.tidy lawPid), hh q, decide_eq_false hq]; simp [hs]
  refine ⟨_, ownsMap_tight h' (Nat.le_of_eq e1), fun p => ?_, e1, List.nodup_append.2 ⟨hn, by simp, fun a ha c hc => by rw [List.mem_singleton] at hc; subst hc; exact fun e => hq (e ▸ ha)⟩⟩
  by_cases e : p = q
  · subst e
    rw [has_put_same hD.isMap (keyLit p) d]
    simp
  · rw [has_put_other (fun e' => e (Pr.key_inj e')) d, hh p]
    simp [e]
end
section
variable {w w' w2 : World} {b g : Nat} {mg mg' mg2 : Option Nat} {acc l : List Pr}
end
end Go.Proofs.YtjmkecaljkcoiaaDoor
