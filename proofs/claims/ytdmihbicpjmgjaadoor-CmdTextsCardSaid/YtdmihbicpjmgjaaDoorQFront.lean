/-
  A Reader behind a pointer: the bytes that are left, and what stopped it; the contracts of Err, Stop, pass, atMost, Left, End and Read.
-/
import Derived.Test.YtdmihbicpjmgjaaDoorQMath1
import Derived.Test.YtdmihbicpjmgjaaDoorQPidG
import Derived.Defers
import Derived.Tactics
import Derived.Tactics2
import Derived.Laws.Pointers
import Derived.Deep.WholeRow
import Derived.Test.YtdmihbicpjmgjaaDoorQGet1
import Derived.Deep.RegionHeld3
import Derived.IntWalk
import Derived.LoopN
import Derived.Test.YtdmihbicpjmgjaaDoorQOpenT
namespace Go.Proofs.YtdmihbicpjmgjaaDoor
open Go.RowKit
set_option linter.unusedVariables false
set_option linter.unusedSimpArgs false

section
variable {w w' : World} {b b' c t : Nat} {mg : Option Nat} {A : Option Addr} {l : List UInt8}
end
/-- End's answer. -/
def endF (l : List UInt8) (t : Nat) : Nat := if t = 0 then (if l.length = 0 then 0 else 5) else t
/-- Up to how many. -/
def mostF (m : Int) : Nat := m.toNat
end Go.Proofs.YtdmihbicpjmgjaaDoor
namespace Go.Proofs.YtdmihbicpjmgjaaDoor
open Go.RowKit
set_option linter.unusedVariables false
set_option linter.unusedSimpArgs false

/-- The block p is just these cells. -/
def Blk (w : World) (p : Nat) (cs : Array Value) (T : TypeId) : Prop := w.heap[p]? = some (.cells cs T (0, 0))
theorem Blk.cell {w : World} {p : Nat} {cs : Array Value} {T : TypeId} (h : Blk w p cs T) (i : Nat) : w.cell? ⟨p, i, none⟩ = cs[i]? := by
  unfold Blk at h
  simp [World.cell?, h]
section
variable {w w' : World} {p b : Nat} {mg : Option Nat} {cs : Array Value} {T : TypeId}
theorem Blk.lt (h : Blk w p cs T) : p < w.heap.size := lt_of_heap h
theorem Blk.turn (h : Blk w p cs T) (ht : Turn w w' b mg) (h1 : p ≠ b) (h2 : some p ≠ mg) : Blk w' p cs T := (ht.block p h.lt h1 h2).trans h
theorem Blk.later (h : Blk w p cs T) (hb : Below w.heap.size w w') : Blk w' p cs T := (hb.block p h.lt).trans h
theorem Blk.other (h : Blk w p cs T) {q : Addr} (hq : q.block ≠ p) (u : Value) : Blk (w.setCell q u) p cs T := (Below.heap_setCell w q u p (fun e => hq e.symm)).trans h
theorem Blk.set_ (h : Blk w p cs T) (i : Nat) (u : Value) : Blk (w.setCell ⟨p, i, none⟩ u) p (cs.setIfInBounds i u) T := by
  have := heap_setCell_same w p i cs _ u h
  simpa [Blk] using this
theorem Blk.frozen (h : Blk w p cs T) (i : Nat) : w.frozen? ⟨p, i, none⟩ = false := frozen_of_row w p i _ _ h
theorem Turn.setOne (h : Turn w w' b (some p)) (i : Nat) (u : Value) : Turn w (w'.setCell ⟨p, i, none⟩ u) b (some p) :=
  ⟨h.os, h.tape, h.output, Nat.le_trans h.size (by simp), fun j h1 h2 h3 => (Below.heap_setCell w' ⟨p, i, none⟩ u j (fun e => h3 (by rw [e]))).trans (h.block j h1 h2 h3)⟩
end
/-! ### num -/
/-! ### truth -/
/-! ### pid -/
/-! ### ballot -/
/-! ### bytes -/
/-! ### pids -/
end Go.Proofs.YtdmihbicpjmgjaaDoor
namespace Go.Proofs.YtdmihbicpjmgjaaDoor
open Go.RowKit
set_option linter.unusedVariables false
set_option linter.unusedSimpArgs false

/-- What stops the reading of a number. -/
def numE (l : List UInt8) (most : Nat) : Nat := if (getF l).2.2 = 0 then (if most < (getF l).1 then 3 else 0) else (getF l).2.2
/-- What stops the reading of a truth; and the truth. -/
def truE (l : List UInt8) : Nat := match l with | [] => 2 | x :: _ => if 1 < x.toNat then 5 else 0
def truV (l : List UInt8) : Bool := match l with | [] => false | x :: _ => decide (x.toNat = 1)
end Go.Proofs.YtdmihbicpjmgjaaDoor
namespace Go.Proofs.YtdmihbicpjmgjaaDoor
open Go.RowKit
set_option linter.unusedVariables false
set_option linter.unusedSimpArgs false

theorem numE_le {l : List UInt8} {most : Nat} (h : numE l most = 0) : (getF l).1 ≤ most := by
  unfold numE at h
  split at h
  · split at h
    · cases h
    · omega
  · rename_i h1
    exact absurd h h1
/-- What stops the reading of a ballot. -/
def balE (l : List UInt8) : Nat := if numE l 4294967295 = 0 then (pidG (l.drop (getF l).2.1)).2.2.2 else numE l 4294967295
/-- What stops the reading of bytes; and the bytes; and what is left. -/
def bytE (l : List UInt8) (most : Nat) : Nat := if numE l most = 0 then (if (l.drop (getF l).2.1).length < (getF l).1 then 2 else 0) else numE l most
def bytV (l : List UInt8) : List UInt8 := (l.drop (getF l).2.1).take (getF l).1
def bytR (l : List UInt8) : List UInt8 := (l.drop (getF l).2.1).drop (getF l).1
/-- A row of the call's own that holds L. -/
def GB (base : Nat) (L : List UInt8) (v : Value) (w : World) : Prop := ∃ A c, v = .slice A L.length c ∧ OwnB w base (.slice A L.length c) L.length L
theorem OwnB.setLow {w : World} {base n : Nat} {v : Value} {l : List UInt8} (h : OwnB w base v n l) {p : Addr} (hp : p.block < base) (u : Value) : OwnB (w.setCell p u) base v n l := by
  refine ⟨h.1, ?_⟩
  rcases h.2 with h0 | ⟨g, cap, cur, rfl, hb, hh, r⟩
  · exact .inl h0
  · exact .inr ⟨g, cap, cur, rfl, hb, (Below.heap_setCell w p u g (by omega)).trans hh, r⟩
theorem GB.set_ {base : Nat} {L : List UInt8} {v : Value} {w : World} (h : GB base L v w) {p : Addr} (hp : p.block < base) (u : Value) : GB base L v (w.setCell p u) := by
  obtain ⟨A, c, e, h⟩ := h
  exact ⟨A, c, e, h.setLow hp u⟩
theorem GB.mono {base base' : Nat} {L : List UInt8} {v : Value} {w : World} (h : GB base L v w) (hb : base' ≤ base) : GB base' L v w := by
  obtain ⟨A, c, e, h⟩ := h
  exact ⟨A, c, e, h.mono hb⟩
end Go.Proofs.YtdmihbicpjmgjaaDoor
namespace Go.Proofs.YtdmihbicpjmgjaaDoor
open Go.RowKit
set_option linter.unusedVariables false
set_option linter.unusedSimpArgs false

/-- A process that is read; processes, so many, one behind the other: they, what is left, what stopped it. -/
def prOf (l : List UInt8) : Pr := ⟨(pidG l).1, (pidG l).2.1, (pidG_bds l).1, (pidG_bds l).2.1⟩
def prd : Nat → List UInt8 → List Pr × List UInt8 × Nat
  | 0, l => ([], l, 0)
  | n + 1, l => if (pidG l).2.2.2 = 0 then (prOf l :: (prd n (l.drop (pidG l).2.2.1)).1, (prd n (l.drop (pidG l).2.2.1)).2.1, (prd n (l.drop (pidG l).2.2.1)).2.2) else ([], l, (pidG l).2.2.2)
/-- What stops the reading of processes; and they; and what is left. -/
def psE (l : List UInt8) (most : Nat) : Nat := if numE l most = 0 then (prd (getF l).1 (l.drop (getF l).2.1)).2.2 else numE l most
def psV (l : List UInt8) : List Pr := (prd (getF l).1 (l.drop (getF l).2.1)).1
def psR (l : List UInt8) : List UInt8 := (prd (getF l).1 (l.drop (getF l).2.1)).2.1
/-- A row of the call's own that holds L. -/
def GP (base : Nat) (L : List Pr) (v : Value) (w : World) : Prop := ∃ A c, v = .slice A L.length c ∧ OwnP w base (.slice A L.length c) L.length L
theorem OwnE.setLow {α : Type} {enc : α → List Value} {k : Nat} {T : TypeId} {w : World} {base n : Nat} {v : Value} {l : List α} (h : OwnE T enc k w base v n l) {p : Addr} (hp : p.block < base) (u : Value) : OwnE T enc k (w.setCell p u) base v n l := by
  refine ⟨h.1, ?_⟩
  rcases h.2 with h0 | ⟨g, cap, cur, rfl, hb, hh, r⟩
  · exact .inl h0
  · exact .inr ⟨g, cap, cur, rfl, hb, (Below.heap_setCell w p u g (by omega)).trans hh, r⟩
theorem OwnE.turnLow {α : Type} {enc : α → List Value} {k : Nat} {T : TypeId} {w w' : World} {base n b : Nat} {v : Value} {l : List α} (h : OwnE T enc k w base v n l) (ht : Turn w w' b none) (hb : b < base) : OwnE T enc k w' base v n l := by
  refine ⟨h.1, ?_⟩
  rcases h.2 with h0 | ⟨g, cap, cur, rfl, hg, hh, r⟩
  · exact .inl h0
  · exact .inr ⟨g, cap, cur, rfl, hg, (ht.block g (Array.getElem?_eq_some_iff.1 hh).1 (by omega) (by simp)).trans hh, r⟩
theorem GP.set_ {base : Nat} {L : List Pr} {v : Value} {w : World} (h : GP base L v w) {p : Addr} (hp : p.block < base) (u : Value) : GP base L v (w.setCell p u) := by
  obtain ⟨A, c, e, h⟩ := h
  exact ⟨A, c, e, h.setLow hp u⟩
theorem GP.mono {base base' : Nat} {L : List Pr} {v : Value} {w : World} (h : GP base L v w) (hb : base' ≤ base) : GP base' L v w := by
  obtain ⟨A, c, e, h⟩ := h
  exact ⟨A, c, e, h.mono hb⟩
theorem Turn.grownNew {w w2 w3 : World} {b : Nat} {mg row : Option Nat} (h : Turn w w2 b mg) (hg : w2.grownBy w3 row) (hr : ∀ g, row = some g → w.heap.size ≤ g) : Turn w w3 b mg :=
  ⟨hg.os.trans h.os, hg.tape.trans h.tape, hg.output.trans h.output, Nat.le_trans h.size hg.size, fun i hi h1 h2 => (hg.block i (Nat.lt_of_lt_of_le hi h.size) (fun e => by have := hr i e.symm; omega)).trans (h.block i hi h1 h2)⟩
theorem es_pr (w : World) (q : Pr) (T : TypeId) : Es prC (w.alloc (.cells #[.int .u16 (q.i : Int), .int .u32 (q.k : Int)] T)) (w.heap.size + 1) (some ⟨w.heap.size, 0, none⟩) 1 [q] := by
  refine ⟨rfl, fun _ => ⟨_, rfl, Nat.lt_succ_self _, fun j v hv => ?_⟩⟩
  rw [ec_one] at hv
  have hj : j < 2 := (List.getElem?_eq_some_iff.1 hv).1
  obtain rfl | rfl : j = 0 ∨ j = 1 := by omega
  · simp [prC] at hv
    subst hv
    exact cell_of_row _ _ 0 _ T (0, 0) (heap_alloc_new w _)
  · simp [prC] at hv
    subst hv
    exact cell_of_row _ _ 1 _ T (0, 0) (heap_alloc_new w _)
/-- What holds at the head of a round: n are still to be read of rest, acc were; or t stopped it. -/
def PsInv (N : Nat) (M : List UInt8) (n : Nat) (acc : List Pr) (rest : List UInt8) (t : Nat) : Prop :=
  (t = 0 ∧ prd N M = (acc ++ (prd n rest).1, (prd n rest).2.1, (prd n rest).2.2)) ∨ (t ≠ 0 ∧ (prd N M).2.2 = t)
theorem PsInv.start (N : Nat) (M : List UInt8) : PsInv N M N [] M 0 := .inl ⟨rfl, rfl⟩
theorem PsInv.step {N n : Nat} {M rest : List UInt8} {acc : List Pr} (h : PsInv N M (n + 1) acc rest 0) (hp : (pidG rest).2.2.2 = 0) : PsInv N M n (acc ++ [prOf rest]) (rest.drop (pidG rest).2.2.1) 0 := by
  rcases h with ⟨_, h⟩ | ⟨h, _⟩
  · refine .inl ⟨rfl, ?_⟩
    rw [h, prd, if_pos hp]
    simp
  · exact absurd rfl h
theorem PsInv.bad {N n : Nat} {M rest : List UInt8} {acc acc' : List Pr} (h : PsInv N M (n + 1) acc rest 0) (hp : (pidG rest).2.2.2 ≠ 0) : PsInv N M n acc' rest (pidG rest).2.2.2 := by
  rcases h with ⟨_, h⟩ | ⟨h, _⟩
  · refine .inr ⟨hp, ?_⟩
    rw [h, prd, if_neg hp]
  · exact absurd rfl h
theorem PsInv.done {N : Nat} {M rest : List UInt8} {acc : List Pr} (h : PsInv N M 0 acc rest 0) : (prd N M).1 = acc ∧ (prd N M).2.1 = rest ∧ (prd N M).2.2 = 0 := by
  rcases h with ⟨_, h⟩ | ⟨h, _⟩
  · rw [h]; simp [prd]
  · exact absurd rfl h
theorem PsInv.out {N n t : Nat} {M rest : List UInt8} {acc : List Pr} (h : PsInv N M n acc rest t) (ht : t ≠ 0) : (prd N M).2.2 = t := by
  rcases h with ⟨h, _⟩ | ⟨_, h⟩
  · exact absurd h ht
  · exact h
/-- What was laid is read. -/
theorem prd_pids (ps : List Pr) (t : List UInt8) : prd ps.length (pidsL ps ++ t) = (ps, t, 0) := by
  induction ps with
  | nil => simp [prd, pidsL]
  | cons p ps ih =>
    have e := pidG_put p.i p.k (pidsL ps ++ t) p.hi p.hk
    have e1 : pidsL (p :: ps) ++ t = pidL p.i p.k ++ (pidsL ps ++ t) := by rw [pidsL_cons, List.append_assoc]
    rw [e1, List.length_cons, prd, e]
    simp only [if_true]
    rw [List.drop_left, ih]
    refine Prod.ext ?_ rfl
    show prOf (pidL p.i p.k ++ (pidsL ps ++ t)) :: ps = p :: ps
    congr 1
    refine Pr.ext ?_ ?_
    · show (pidG (pidL p.i p.k ++ (pidsL ps ++ t))).1 = p.i
      rw [e]
    · show (pidG (pidL p.i p.k ++ (pidsL ps ++ t))).2.1 = p.k
      rw [e]
end Go.Proofs.YtdmihbicpjmgjaaDoor
namespace Go.Proofs.YtdmihbicpjmgjaaDoor
open Go.RowKit
set_option linter.unusedVariables false
set_option linter.unusedSimpArgs false

theorem numE_front (n most : Nat) (t : List UInt8) (hn : n < 18446744073709551616) (hm : n ≤ most) : numE (shortL n ++ t) most = 0 := by
  unfold numE
  rw [getF_short n t hn]
  simp only [if_true]
  rw [if_neg (by omega)]
theorem rest_front (n : Nat) (t : List UInt8) (hn : n < 18446744073709551616) : (shortL n ++ t).drop (getF (shortL n ++ t)).2.1 = t := by
  rw [getF_short n t hn]
  exact List.drop_left
end Go.Proofs.YtdmihbicpjmgjaaDoor
