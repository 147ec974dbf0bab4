/-
  Processes as keys of a map; sets of processes that the call makes.
-/
import Derived.Test.YthloamhodapmpaaPr
import Derived.Maps.Own
import Derived.Maps.OwnSet
import Derived.Maps.OwnOps
import Derived.DeepKeys4
import Derived.Maps.Keyed
namespace Go.Proofs.Ythloamhodapmpaa
open Go.RowKit Go.Maps
set_option linter.unusedVariables false
set_option linter.unusedSimpArgs false

theorem rowPid : (34 : TypeId) < Try.prog.types.size := of_decide_eq_true (by kernel_rfl)
theorem widePid : (match Try.prog.underlying 34 with | some (.array _ _) | some (.struct _) => true | _ => false) = true := by kernel_rfl
set_option maxRecDepth 100000 in
theorem lawPid : Keyed Try.prog 34 := Keyed.of_law (deep_law_laid laidOut (m := 3) (by omega) rowPid (by kernel_rfl) widePid)
/-- What a process reads as, as a key. -/
def Pr.key (p : Pr) : Lit := .string (keyBytes [.int .u16 (p.i : Int), .int .u32 (p.k : Int)])
theorem wf_pr16 (p : Pr) : (Lit.int .u16 (p.i : Int)).wf = true := by
  have := p.hi
  simp [Lit.wf, IntKind.min, IntKind.max, IntKind.bits, IntKind.signed]; omega
theorem wf_pr32 (p : Pr) : (Lit.int .u32 (p.k : Int)).wf = true := by
  have := p.hk
  simp [Lit.wf, IntKind.min, IntKind.max, IntKind.bits, IntKind.signed]; omega
theorem keyTypePid : Try.prog.keyType 34 = true := by kernel_rfl
theorem cellsPid : Try.prog.cellsOf 34 = 2 := by kernel_rfl
theorem cellsU16 : Try.prog.cellsOf 31 = 1 := by kernel_rfl
theorem cellsU32 : Try.prog.cellsOf 32 = 1 := by kernel_rfl
theorem nat_pos {n j : Nat} (h : j < n) : ∃ m, n = m + 1 := ⟨n - 1, by omega⟩
theorem typesPos : ∃ m, Try.prog.types.size = m + 1 := nat_pos rowPid
theorem key_pr (p : Pr) : keyOf Try.prog 34 (.agg #[.int .u16 (p.i : Int), .int .u32 (p.k : Int)]) = some p.key := by
  obtain ⟨m, hm⟩ := typesPos
  have h1 := wf_pr16 p
  have h2 := wf_pr32 p
  unfold keyOf
  simp only [Try.underlying34]
  rw [if_pos (by simp [keyTypePid, Value.formed, Try.underlying34, cellsPid]), hm]
  unfold Program.keyLits
  simp [Try.underlying34, Value.cells, cellsPid, cellsU16, cellsU32, Program.keyLits, Try.underlying31, Try.underlying32, h1, h2, Pr.key]
theorem Pr.key_inj {p q : Pr} (h : p.key = q.key) : p = q := by
  have e := lawPid.inj (key_pr p) (by rw [h]; exact key_pr q)
  simp only [Value.agg.injEq, Array.mk.injEq, List.cons.injEq, Value.int.injEq, true_and, and_true] at e
  exact Pr.ext (by omega) (by omega)
/-- The map in block b is a set of the processes acc. -/
def SetP (w : World) (b n : Nat) (acc : List Pr) : Prop := ∃ D : DataW Unit, w.ownsMap Try.prog 34 unitElem b n D ∧ ∀ p : Pr, Maps.has D p.key = decide (p ∈ acc)
theorem SetP.made (w : World) : SetP (w.alloc (.map #[] 0)) w.heap.size 0 [] := ⟨.map [], World.ownsMap_made _ _ _ _, fun p => by simp [Maps.has]⟩
theorem SetP.alloc {w : World} {b n : Nat} {acc : List Pr} (h : SetP w b n acc) (o : Obj) : SetP (w.alloc o) b n acc := by
  obtain ⟨D, h1, h2⟩ := h
  exact ⟨D, h1.alloc o, h2⟩
theorem zeroUnit (w : World) : (zeroValue 123).run Try.prog w = .ok (.agg #[]) w := by kernel_rfl
/-- One more in the set. -/
theorem SetP.put {w w' : World} {b n m : Nat} {acc : List Pr} {D : DataW Unit} {q : Pr} (hD : w.ownsMap Try.prog 34 unitElem b n D) (hh : ∀ p : Pr, Maps.has D p.key = decide (p ∈ acc)) (d : DataW Unit)
    (h' : w'.ownsMap Try.prog 34 unitElem b m (D.put q.key d)) : SetP w' b m (acc ++ [q]) := by
  refine ⟨_, h', fun p => ?_⟩
  by_cases e : p = q
  · subst e
    rw [has_put_same hD.isMap (lawPid.key (key_pr p)) d]
    simp
  · rw [has_put_other (fun e' => e (Pr.key_inj e')) d, hh p]
    simp [e]
theorem SetP.grown {w w' : World} {b n : Nat} {acc : List Pr} {row : Option Nat} (h : SetP w b n acc) (hg : w.grownBy w' row) (hne : some b ≠ row) : SetP w' b n acc := by
  obtain ⟨D, h1, h2⟩ := h
  exact ⟨D, h1.kept hg hne, h2⟩
theorem SetP.mono {w : World} {b n m : Nat} {acc : List Pr} (h : SetP w b n acc) (hn : n ≤ m) : SetP w b m acc := by
  obtain ⟨D, h1, h2⟩ := h
  exact ⟨D, h1.mono hn, h2⟩
end Go.Proofs.Ythloamhodapmpaa
