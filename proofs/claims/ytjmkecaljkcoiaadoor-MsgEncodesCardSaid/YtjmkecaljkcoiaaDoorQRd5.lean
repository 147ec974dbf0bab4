import Derived.Test.YtjmkecaljkcoiaaDoorQForm1
import Derived.Test.YtjmkecaljkcoiaaDoorQOpenT
import Derived.Defers
import Derived.Tactics
import Derived.Tactics2
import Derived.Laws.Pointers
import Derived.Deep.WholeRow
import Derived.Test.YtjmkecaljkcoiaaDoorQGet1
import Derived.Deep.RegionHeld3
import Derived.IntWalk
import Derived.LoopN
namespace Go.Proofs.YtjmkecaljkcoiaaDoor
open Go.RowKit
set_option linter.unusedVariables false
set_option linter.unusedSimpArgs false
def RdSl (w : World) (b : Nat) (A : Option Addr) (c : Nat) (l : List UInt8) (t : Nat) : Prop :=
  w.heap[b]? = some (.cells #[.slice A l.length c, .int .i64 (t : Int)] 118 (0, 0)) ∧ Bs w b A l.length l ∧ l.length ≤ c ∧ c ≤ maxLen
def RdAt (w : World) (b : Nat) (l : List UInt8) (t : Nat) : Prop := ∃ A c, RdSl w b A c l t
section
variable {w w' : World} {b b' c t : Nat} {mg : Option Nat} {A : Option Addr} {l : List UInt8}
theorem RdSl.lt (h : RdSl w b A c l t) : b < w.heap.size := lt_of_heap h.1
theorem RdSl.cells (h : RdSl w b A c l t) : w.cell? ⟨b, 0, none⟩ = some (.slice A l.length c) ∧ w.cell? ⟨b, 1, none⟩ = some (.int .i64 (t : Int)) := by
  have hf : ∀ y, w.cell? ⟨b, y, none⟩ = (#[.slice A l.length c, .int .i64 (t : Int)] : Array Value)[y]? := by
    intro y
    have h1 := h.1
    simp [World.cell?, h1]
  exact ⟨hf 0, hf 1⟩
theorem RdSl.frozen (h : RdSl w b A c l t) (y : Nat) : w.frozen? ⟨b, y, none⟩ = false := frozen_of_row w b y _ _ h.1
theorem RdSl.keep (h : RdSl w b A c l t) (hk : ∀ i, i ≤ b → w'.heap[i]? = w.heap[i]?) : RdSl w' b A c l t :=
  ⟨(hk b (Nat.le_refl _)).trans h.1, h.2.1.keep fun p hp => World.cell?_of_block (hk p.block (by omega)), h.2.2⟩
theorem RdSl.later (h : RdSl w b A c l t) (hb : Below w.heap.size w w') : RdSl w' b A c l t := h.keep fun i hi => hb.block i (by have := h.lt; omega)
theorem RdSl.turn (h : RdSl w b A c l t) (ht : Turn w w' b' mg) (h1 : b < b') (h2 : ∀ g, mg = some g → b < g) : RdSl w' b A c l t :=
  h.keep fun i hi => ht.block i (by have := h.lt; omega) (by omega) fun e => by have := h2 i e.symm; omega
theorem RdSl.other (h : RdSl w b A c l t) {p : Addr} (hp : b < p.block) (u : Value) : RdSl (w.setCell p u) b A c l t := h.keep fun i hi => Below.heap_setCell w p u i (by omega)
theorem RdSl.alloc (h : RdSl w b A c l t) (o : Obj) : RdSl (w.alloc o) b A c l t := h.later ((Below.refl _ _).alloc (Nat.le_refl _) o)
theorem RdSl.set1 (h : RdSl w b A c l t) (t' : Nat) : RdSl (w.setCell ⟨b, 1, none⟩ (.int .i64 (t' : Int))) b A c l t' := by
  refine ⟨?_, h.2.1.setCell (p := ⟨b, 1, none⟩) (Nat.le_refl _) _, h.2.2⟩
  have := heap_setCell_same w b 1 _ _ (.int .i64 (t' : Int)) h.1
  rw [this]
  rfl
theorem RdSl.at_ (h : RdSl w b A c l t) : RdAt w b l t := ⟨A, c, h⟩
theorem RdAt.lt (h : RdAt w b l t) : b < w.heap.size := by obtain ⟨A, c, h⟩ := h; exact h.lt
theorem RdAt.later (h : RdAt w b l t) (hb : Below w.heap.size w w') : RdAt w' b l t := by obtain ⟨A, c, h⟩ := h; exact ⟨A, c, h.later hb⟩
theorem RdAt.turn (h : RdAt w b l t) (ht : Turn w w' b' mg) (h1 : b < b') (h2 : ∀ g, mg = some g → b < g) : RdAt w' b l t := by obtain ⟨A, c, h⟩ := h; exact ⟨A, c, h.turn ht h1 h2⟩
theorem RdAt.other (h : RdAt w b l t) {p : Addr} (hp : b < p.block) (u : Value) : RdAt (w.setCell p u) b l t := by obtain ⟨A, c, h⟩ := h; exact ⟨A, c, h.other hp u⟩
theorem RdAt.alloc (h : RdAt w b l t) (o : Obj) : RdAt (w.alloc o) b l t := by obtain ⟨A, c, h⟩ := h; exact ⟨A, c, h.alloc o⟩
end
def ReadsP (w : World) (b : Nat) (v : Value) (l : List UInt8) (t : Nat) (e : Ending) (w' : World) : Prop := e = .returned v ∧ RdAt w' b l t ∧ Turn w w' b none
def endF (l : List UInt8) (t : Nat) : Nat := if t = 0 then (if l.length = 0 then 0 else 5) else t
def mostF (m : Int) : Nat := m.toNat
def ReadP (w : World) (l : List UInt8) (e : Ending) (w' : World) : Prop := ∃ b, e = .returned (.pointer (some ⟨b, 0, none⟩)) ∧ w.heap.size ≤ b ∧ RdAt w' b l 0 ∧ Below w.heap.size w w'
end Go.Proofs.YtjmkecaljkcoiaaDoor
namespace Go.Proofs.YtjmkecaljkcoiaaDoor
open Go.RowKit
set_option linter.unusedVariables false
set_option linter.unusedSimpArgs false
def Blk (w : World) (p : Nat) (cs : Array Value) (T : TypeId) : Prop := w.heap[p]? = some (.cells cs T (0, 0))
theorem Blk.cell {w : World} {p : Nat} {cs : Array Value} {T : TypeId} (h : Blk w p cs T) (i : Nat) : w.cell? ⟨p, i, none⟩ = cs[i]? := by
  unfold Blk at h
  simp [World.cell?, h]
section
variable {w w' : World} {p b : Nat} {mg : Option Nat} {cs : Array Value} {T : TypeId}
theorem Blk.lt (h : Blk w p cs T) : p < w.heap.size := lt_of_heap h
theorem Blk.turn (h : Blk w p cs T) (ht : Turn w w' b mg) (h1 : p ≠ b) (h2 : some p ≠ mg) : Blk w' p cs T := (ht.block p h.lt h1 h2).trans h
theorem Blk.later (h : Blk w p cs T) (hb : Below w.heap.size w w') : Blk w' p cs T := (hb.block p h.lt).trans h
theorem Blk.other (h : Blk w p cs T) {q : Addr} (hq : q.block ≠ p) (u : Value) : Blk (w.setCell q u) p cs T := (Below.heap_setCell w q u p (fun e => hq e.symm)).trans h
theorem Blk.set_ (h : Blk w p cs T) (i : Nat) (u : Value) : Blk (w.setCell ⟨p, i, none⟩ u) p (cs.setIfInBounds i u) T := by
  have := heap_setCell_same w p i cs _ u h
  simpa [Blk] using this
theorem Blk.frozen (h : Blk w p cs T) (i : Nat) : w.frozen? ⟨p, i, none⟩ = false := frozen_of_row w p i _ _ h
end
def CloP (w : World) (b : Nat) (F G : Value → World → Prop) (lr : List UInt8) (t : Nat) (e : Ending) (w' : World) : Prop :=
  ∃ v l', e = .returned v ∧ F v w' ∧ RdAt w' b l' t ∧ Turn w w' b none ∧ (t = 0 → l' = lr ∧ G v w')
def WholeG (w : World) (b : Nat) (z : Value) (G : Value → World → Prop) (l lr : List UInt8) (t : Nat) (e : Ending) (w' : World) : Prop :=
  (t = 0 ∧ ∃ v, e = .returned v ∧ G v w' ∧ RdAt w' b lr 0 ∧ Turn w w' b none) ∨ (t ≠ 0 ∧ e = .returned z ∧ RdAt w' b l t ∧ Turn w w' b none)
theorem WholeG.ahead {w w1 : World} {b : Nat} {z : Value} {G : Value → World → Prop} {l lr : List UInt8} {t : Nat} {e : Ending} {w' : World} (hb : Below w.heap.size w w1) (h : WholeG w1 b z G l lr t e w') : WholeG w b z G l lr t e w' := by
  rcases h with ⟨h1, v, h2, h3, h4, h5⟩ | ⟨h1, h2, h3, h4⟩
  · exact .inl ⟨h1, v, h2, h3, h4, Turn.ahead hb h5⟩
  · exact .inr ⟨h1, h2, h3, Turn.ahead hb h4⟩
end Go.Proofs.YtjmkecaljkcoiaaDoor
namespace Go.Proofs.YtjmkecaljkcoiaaDoor
open Go.RowKit
set_option linter.unusedVariables false
set_option linter.unusedSimpArgs false
def numE (l : List UInt8) (most : Nat) : Nat := if (getF l).2.2 = 0 then (if most < (getF l).1 then 3 else 0) else (getF l).2.2
def Num1P (w : World) (b : Nat) (l : List UInt8) (most : Nat) : Ending → World → Prop := CloP w b (fun v _ => ∃ (n : Nat), v = .int .u64 (n : Int)) (fun v _ => v = .int .u64 ((getF l).1 : Nat)) (l.drop (getF l).2.1) (numE l most)
theorem CloP.num {w : World} {b : Nat} {l : List UInt8} {most n k t v : Nat} {l' : List UInt8} {e : Ending} {w' : World} (h1 : getF l = (n, k, t)) (h2 : v = numE l most) (h3 : ReadsP w b (.int .u64 (n : Int)) l' v e w') (h4 : v = 0 → l' = l.drop k) :
    Num1P w b l most e w' := by
  subst h2
  obtain ⟨he, hR, hT⟩ := h3
  refine ⟨_, l', he, ⟨n, rfl⟩, hR, hT, fun ht => ⟨?_, ?_⟩⟩
  · rw [h1]; exact h4 ht
  · rw [h1]
def truE (l : List UInt8) : Nat := match l with | [] => 2 | x :: _ => if 1 < x.toNat then 5 else 0
def truV (l : List UInt8) : Bool := match l with | [] => false | x :: _ => decide (x.toNat = 1)
def Pid1P (w : World) (b : Nat) (l : List UInt8) : Ending → World → Prop := CloP w b (fun v _ => ∃ (i k : Nat), v = .agg #[.int .u16 (i : Int), .int .u32 (k : Int)]) (fun v _ => v = .agg #[.int .u16 ((pidG l).1 : Nat), .int .u32 ((pidG l).2.1 : Nat)]) (l.drop (pidG l).2.2.1) (pidG l).2.2.2
end Go.Proofs.YtjmkecaljkcoiaaDoor
namespace Go.Proofs.YtjmkecaljkcoiaaDoor
open Go.RowKit
set_option linter.unusedVariables false
set_option linter.unusedSimpArgs false
def balE (l : List UInt8) : Nat := if numE l 4294967295 = 0 then (pidG (l.drop (getF l).2.1)).2.2.2 else numE l 4294967295
def Bal1P (w : World) (b : Nat) (l : List UInt8) : Ending → World → Prop := CloP w b (fun v _ => ∃ (r i k : Nat), v = .agg #[.int .u32 (r : Int), .int .u16 (i : Int), .int .u32 (k : Int)]) (fun v _ => v = .agg #[.int .u32 (((getF l).1 : Nat) : Int), .int .u16 (((pidG (l.drop (getF l).2.1)).1 : Nat) : Int), .int .u32 (((pidG (l.drop (getF l).2.1)).2.1 : Nat) : Int)]) ((l.drop (getF l).2.1).drop (pidG (l.drop (getF l).2.1)).2.2.1) (balE l)
def bytE (l : List UInt8) (most : Nat) : Nat := if numE l most = 0 then (if (l.drop (getF l).2.1).length < (getF l).1 then 2 else 0) else numE l most
def bytV (l : List UInt8) : List UInt8 := (l.drop (getF l).2.1).take (getF l).1
def bytR (l : List UInt8) : List UInt8 := (l.drop (getF l).2.1).drop (getF l).1
def GB (base : Nat) (L : List UInt8) (v : Value) (w : World) : Prop := ∃ A c, v = .slice A L.length c ∧ OwnB w base (.slice A L.length c) L.length L
theorem OwnB.setLow {w : World} {base n : Nat} {v : Value} {l : List UInt8} (h : OwnB w base v n l) {p : Addr} (hp : p.block < base) (u : Value) : OwnB (w.setCell p u) base v n l := by
  refine ⟨h.1, ?_⟩
  rcases h.2 with h0 | ⟨g, cap, cur, rfl, hb, hh, r⟩
  · exact .inl h0
  · exact .inr ⟨g, cap, cur, rfl, hb, (Below.heap_setCell w p u g (by omega)).trans hh, r⟩
theorem GB.set_ {base : Nat} {L : List UInt8} {v : Value} {w : World} (h : GB base L v w) {p : Addr} (hp : p.block < base) (u : Value) : GB base L v (w.setCell p u) := by
  obtain ⟨A, c, e, h⟩ := h
  exact ⟨A, c, e, h.setLow hp u⟩
theorem GB.mono {base base' : Nat} {L : List UInt8} {v : Value} {w : World} (h : GB base L v w) (hb : base' ≤ base) : GB base' L v w := by
  obtain ⟨A, c, e, h⟩ := h
  exact ⟨A, c, e, h.mono hb⟩
def Byt1P (w : World) (b base : Nat) (l : List UInt8) (most : Nat) : Ending → World → Prop := CloP w b (fun v _ => ∃ (V : Option Addr) (m d : Nat), v = .slice V m d) (GB base (bytV l)) (bytR l) (bytE l most)
end Go.Proofs.YtjmkecaljkcoiaaDoor
namespace Go.Proofs.YtjmkecaljkcoiaaDoor
open Go.RowKit
set_option linter.unusedVariables false
set_option linter.unusedSimpArgs false
def prOf (l : List UInt8) : Pr := ⟨(pidG l).1, (pidG l).2.1, (pidG_bds l).1, (pidG_bds l).2.1⟩
def prd : Nat → List UInt8 → List Pr × List UInt8 × Nat
  | 0, l => ([], l, 0)
  | n + 1, l => if (pidG l).2.2.2 = 0 then (prOf l :: (prd n (l.drop (pidG l).2.2.1)).1, (prd n (l.drop (pidG l).2.2.1)).2.1, (prd n (l.drop (pidG l).2.2.1)).2.2) else ([], l, (pidG l).2.2.2)
def psE (l : List UInt8) (most : Nat) : Nat := if numE l most = 0 then (prd (getF l).1 (l.drop (getF l).2.1)).2.2 else numE l most
def psV (l : List UInt8) : List Pr := (prd (getF l).1 (l.drop (getF l).2.1)).1
def psR (l : List UInt8) : List UInt8 := (prd (getF l).1 (l.drop (getF l).2.1)).2.1
def GP (base : Nat) (L : List Pr) (v : Value) (w : World) : Prop := ∃ A c, v = .slice A L.length c ∧ OwnP w base (.slice A L.length c) L.length L
theorem OwnE.setLow {α : Type} {enc : α → List Value} {k : Nat} {T : TypeId} {w : World} {base n : Nat} {v : Value} {l : List α} (h : OwnE T enc k w base v n l) {p : Addr} (hp : p.block < base) (u : Value) : OwnE T enc k (w.setCell p u) base v n l := by
  refine ⟨h.1, ?_⟩
  rcases h.2 with h0 | ⟨g, cap, cur, rfl, hb, hh, r⟩
  · exact .inl h0
  · exact .inr ⟨g, cap, cur, rfl, hb, (Below.heap_setCell w p u g (by omega)).trans hh, r⟩
theorem GP.set_ {base : Nat} {L : List Pr} {v : Value} {w : World} (h : GP base L v w) {p : Addr} (hp : p.block < base) (u : Value) : GP base L v (w.setCell p u) := by
  obtain ⟨A, c, e, h⟩ := h
  exact ⟨A, c, e, h.setLow hp u⟩
theorem GP.mono {base base' : Nat} {L : List Pr} {v : Value} {w : World} (h : GP base L v w) (hb : base' ≤ base) : GP base' L v w := by
  obtain ⟨A, c, e, h⟩ := h
  exact ⟨A, c, e, h.mono hb⟩
theorem RdAt.grown {w w' : World} {b t : Nat} {l : List UInt8} {row : Option Nat} (h : RdAt w b l t) (hg : w.grownBy w' row) (hr : ∀ g, row = some g → b < g) : RdAt w' b l t := by
  obtain ⟨A, c, h⟩ := h
  have hlt := h.lt
  exact ⟨A, c, h.keep fun i hi => hg.block i (by omega) (fun e => by have := hr i e.symm; omega)⟩
def PsInv (N : Nat) (M : List UInt8) (n : Nat) (acc : List Pr) (rest : List UInt8) (t : Nat) : Prop :=
  (t = 0 ∧ prd N M = (acc ++ (prd n rest).1, (prd n rest).2.1, (prd n rest).2.2)) ∨ (t ≠ 0 ∧ (prd N M).2.2 = t)
theorem PsInv.start (N : Nat) (M : List UInt8) : PsInv N M N [] M 0 := .inl ⟨rfl, rfl⟩
theorem PsInv.step {N n : Nat} {M rest : List UInt8} {acc : List Pr} (h : PsInv N M (n + 1) acc rest 0) (hp : (pidG rest).2.2.2 = 0) : PsInv N M n (acc ++ [prOf rest]) (rest.drop (pidG rest).2.2.1) 0 := by
  rcases h with ⟨_, h⟩ | ⟨h, _⟩
  · refine .inl ⟨rfl, ?_⟩
    rw [h, prd, if_pos hp]
    simp
  · exact absurd rfl h
theorem PsInv.done {N : Nat} {M rest : List UInt8} {acc : List Pr} (h : PsInv N M 0 acc rest 0) : (prd N M).1 = acc ∧ (prd N M).2.1 = rest ∧ (prd N M).2.2 = 0 := by
  rcases h with ⟨_, h⟩ | ⟨h, _⟩
  · rw [h]; simp [prd]
  · exact absurd rfl h
theorem PsInv.out {N n t : Nat} {M rest : List UInt8} {acc : List Pr} (h : PsInv N M n acc rest t) (ht : t ≠ 0) : (prd N M).2.2 = t := by
  rcases h with ⟨h, _⟩ | ⟨_, h⟩
  · exact absurd h ht
  · exact h
def Ps1P (w : World) (b base : Nat) (l : List UInt8) (most : Nat) : Ending → World → Prop := CloP w b (fun v _ => ∃ (V : Option Addr) (m d : Nat), v = .slice V m d) (GP base (psV l)) (psR l) (psE l most)
def PsRel (w wr : World) (b N n : Nat) (M : List UInt8) (v : Value) : Prop :=
  ∃ acc rest t A q c, v = .slice A q c ∧ OwnP wr w.heap.size (.slice A q c) q acc ∧ RdAt wr b rest t ∧ Turn w wr b none ∧ PsInv N M n acc rest t ∧ q + n = N
end Go.Proofs.YtjmkecaljkcoiaaDoor
