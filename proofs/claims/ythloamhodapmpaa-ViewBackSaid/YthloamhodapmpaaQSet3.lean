/-
  Sets of processes: the contracts of Add, Drop, Len.
-/
import Derived.StillTailTactics
import Derived.Test.YthloamhodapmpaaQSet2
namespace Go.Proofs.Ythloamhodapmpaa
open Go.RowKit Go.Maps
set_option linter.unusedVariables false
set_option linter.unusedSimpArgs false

theorem slen_nil (w : World) : Calls Try.prog 51 #[.pointer none] w fun e w' => e = .returned (.int .i64 0) ∧ w = w' := by
  go_enter Try.func51, Try.ntmps51
  go_wp2
  go_ret
  exact ⟨rfl, rfl⟩
theorem slen_any (b : Nat) (mg : Option Nat) (acc : List Pr) (w : World) (h : SetAt w b mg acc) :
    Calls Try.prog 51 #[.pointer (some ⟨b, 0, none⟩)] w fun e w' => e = .returned (.int .i64 (acc.length : Int)) ∧ w = w' := by
  have hc := h.cell
  have hl := fun ty => h.size ty
  generalize acc.length = n at *
  go_enter Try.func51, Try.ntmps51
  go_wp2
  go_ret
  exact ⟨rfl, rfl⟩
theorem sadd_nil (p : Pr) (w : World) :
    Calls Try.prog 87 #[.pointer none, .agg #[.int .u16 (p.i : Int), .int .u32 (p.k : Int)]] w fun e w' => e = .returned (.bool false) ∧ Below w.heap.size w w' := by
  go_enter Try.func87, Try.ntmps87
  go_wp2
  go_ret
  exact ⟨rfl, (Below.refl _ _).alloc (Nat.le_refl _) _⟩
theorem eqlSome (g : Nat) (w : World) : (binOp .eql 97 (.map (some g)) (.map none)).run Try.prog w = .ok (.bool false) w := by kernel_rfl
theorem eqlNil (w : World) : (binOp .eql 97 (.map none) (.map none)).run Try.prog w = .ok (.bool true) w := by kernel_rfl
/-- A set that has turned. -/
def SetsTo (w : World) (b : Nat) (mg : Option Nat) (acc : List Pr) (w' : World) : Prop := ∃ mg', SetAt w' b mg' acc ∧ Turn w w' b mg ∧ Mov w mg mg'
set_option maxRecDepth 100000 in
theorem sadd_in (b : Nat) (mg : Option Nat) (acc : List Pr) (p : Pr) (w : World) (h : SetAt w b mg acc) (hp : p ∈ acc) :
    Calls Try.prog 87 #[.pointer (some ⟨b, 0, none⟩), .agg #[.int .u16 (p.i : Int), .int .u32 (p.k : Int)]] w fun e w' => e = .returned (.bool false) ∧ Below w.heap.size w w' := by
  have c := fun W (hb : Below w.heap.size w W) => shas_any b mg acc p W (h.later hb)
  rw [decide_eq_true hp] at c
  clear hp
  have hb1 := ((Below.refl _ w).alloc (Nat.le_refl _) (.cells #[.int .u16 (p.i : Int), .int .u32 (p.k : Int)] 34))
  go_enter Try.func87, Try.ntmps87
  go_wp2_with fail
  refine (c _ hb1).mono ?_
  rintro e w1 ⟨rfl, hb⟩
  have hb2 := hb1.trans (hb.mono (by simp))
  go_wp2
  go_ret
  exact ⟨rfl, hb2⟩
set_option maxRecDepth 100000 in
theorem sadd_new (b g : Nat) (acc : List Pr) (p : Pr) (w : World) (h : SetAt w b (some g) acc) (hp : p ∉ acc) (hn : acc.length < maxLen) :
    Calls Try.prog 87 #[.pointer (some ⟨b, 0, none⟩), .agg #[.int .u16 (p.i : Int), .int .u32 (p.k : Int)]] w fun e w' => e = .returned (.bool true) ∧ SetsTo w b (some g) (acc ++ [p]) w' := by
  have c := fun W (hb : Below w.heap.size w W) => shas_any b (some g) acc p W (h.later hb)
  rw [decide_eq_false hp] at c
  have hb1 := ((Below.refl _ w).alloc (Nat.le_refl _) (.cells #[.int .u16 (p.i : Int), .int .u32 (p.k : Int)] 34))
  have d0 : (w.alloc (.cells #[.int .u16 (p.i : Int), .int .u32 (p.k : Int)] 34)).cell? ⟨w.heap.size, 0, none⟩ = some (.int .u16 (p.i : Int)) := by go_simp
  have d1 : (w.alloc (.cells #[.int .u16 (p.i : Int), .int .u32 (p.k : Int)] 34)).cell? ⟨w.heap.size, 1, none⟩ = some (.int .u32 (p.k : Int)) := by go_simp
  go_enter Try.func87, Try.ntmps87
  go_wp2_with fail
  refine (c _ hb1).mono ?_
  rintro e w1 ⟨rfl, hb⟩
  have f0 := cell_later d0 hb
  have f1 := cell_later d1 hb
  have hbw := hb1.trans (hb.mono (by simp))
  have hs := h.later hbw
  have hc := hs.cell
  have q0 := fun W => eqlSome g W
  clear hb hb1 d0 d1 c
  go_wp2_with fail
  go_still_tail 6, (by kernel_rfl)
  change wpList _ _ _ _ _ w1.drew
  obtain ⟨D, hD, hh, hsz, hnd⟩ : SetD w1 g acc := by
    rcases hs.2 with ⟨h0, _⟩ | ⟨g', h0, hd⟩
    · cases h0
    · injection h0 with e; subst e; exact hd
  have hHH := hide hh
  clear hh q0 hc f0 f1
  refine wpList_mapUpdate_own _ rfl _ _ _ 97 rfl 34 123 lawPid Try.underlying97 unitElem g acc.length D rfl hD.drew hn _ _ _ rfl rfl (key_pr p) (.agg []) [] unitElem_mk ?_
  intro w2 hD2 hg2
  have hset := SetD.put hD hHH.out hsz hnd hp (.agg []) hD2
  have hbe : g ≠ b := (hs.mlt g rfl).2
  have hblt := hs.lt
  have hat : SetAt w2 b (some g) (acc ++ [p]) := ⟨(hg2.block b hblt (fun e => by injection e with e; exact hbe e.symm)).trans hs.1, .inr ⟨g, rfl, hset⟩⟩
  have ht : Turn w w2 b (some g) := (Turn.of_below hbw b (some g)).trans (Turn.of_grown (w := w1) (b := b) (mg := some g) ⟨hg2.os, hg2.tape, hg2.output, hg2.size, hg2.block⟩ (fun i hi => .inr (.inl (by rw [← hi])))) (Mov.refl _ _)
  have HF := hide (And.intro hat ht)
  clear hat ht hset hD2 hg2 hD hHH hs hbw hp
  go_wp2
  go_ret
  exact ⟨rfl, _, HF.out.1, HF.out.2, Mov.refl _ _⟩
theorem heap_setCell_at {w : World} {b : Nat} {u v : Value} {T : TypeId} (h : w.heap[b]? = some (.cells #[u] T (0, 0))) : (w.setCell ⟨b, 0, none⟩ v).heap[b]? = some (.cells #[v] T (0, 0)) := by
  simp [World.setCell, Array.getElem?_modify, h]
theorem setAt_first {w : World} {b : Nat} (h : SetAt w b none []) : SetAt ((w.alloc (.map #[] 0)).setCell ⟨b, 0, none⟩ (.map (some w.heap.size))) b (some w.heap.size) [] := by
  refine ⟨heap_setCell_at ((h.alloc _).1), .inr ⟨_, rfl, (SetD.made w).block ?_⟩⟩
  exact Below.heap_setCell _ _ _ _ (by have := h.lt; show w.heap.size ≠ b; omega)
theorem turn_first {w : World} {b : Nat} (v : Value) (o : Obj) (mg : Option Nat) : Turn w ((w.alloc o).setCell ⟨b, 0, none⟩ v) b mg :=
  ⟨rfl, rfl, rfl, by simp [World.setCell], fun i hi h1 _ => by rw [Below.heap_setCell _ _ _ _ h1, Below.heap_alloc _ _ _ hi]⟩
set_option maxRecDepth 100000 in
theorem sadd_first (b : Nat) (p : Pr) (w : World) (h : SetAt w b none []) :
    Calls Try.prog 87 #[.pointer (some ⟨b, 0, none⟩), .agg #[.int .u16 (p.i : Int), .int .u32 (p.k : Int)]] w fun e w' => e = .returned (.bool true) ∧ SetsTo w b none [p] w' := by
  have c := fun W (hb : Below w.heap.size w W) => shas_any b none [] p W (h.later hb)
  rw [decide_eq_false (by simp)] at c
  have hb1 := ((Below.refl _ w).alloc (Nat.le_refl _) (.cells #[.int .u16 (p.i : Int), .int .u32 (p.k : Int)] 34))
  have d0 : (w.alloc (.cells #[.int .u16 (p.i : Int), .int .u32 (p.k : Int)] 34)).cell? ⟨w.heap.size, 0, none⟩ = some (.int .u16 (p.i : Int)) := by go_simp
  have d1 : (w.alloc (.cells #[.int .u16 (p.i : Int), .int .u32 (p.k : Int)] 34)).cell? ⟨w.heap.size, 1, none⟩ = some (.int .u32 (p.k : Int)) := by go_simp
  have hmm := @run_makeMap Try.prog
  have hblt := h.lt
  go_enter Try.func87, Try.ntmps87
  go_wp2_with fail
  refine (c _ hb1).mono ?_
  rintro e w1 ⟨rfl, hb⟩
  have f0 := cell_later d0 hb
  have f1 := cell_later d1 hb
  have hbw := hb1.trans (hb.mono (by simp))
  have hs := h.later hbw
  have hc := hs.cell
  have hfz := hs.frozen
  have hc2 := (hs.alloc (.map #[] 0)).cell
  have hf2 := (hs.alloc (.map #[] 0)).frozen
  have q0 := fun W => eqlNil W
  have ht0 := (Turn.of_below hbw b none).trans (turn_first (b := b) (.map (some w1.heap.size)) (.map #[] 0) none) (Mov.refl _ _)
  have hs1 := setAt_first hs
  have hsz1 := hbw.size
  clear hb hb1 d0 d1 c
  go_wp2_with fail
  have k0 : ((w1.alloc (.map #[] 0)).setCell ⟨b, 0, none⟩ (.map (some w1.heap.size))).cell? ⟨w.heap.size, 0, none⟩ = some (.int .u16 (p.i : Int)) :=
    (World.cell?_setCell_other _ _ _ _ (fun e => by injection e with e; omega)).trans (((Below.refl w1.heap.size w1).alloc (Nat.le_refl _) _ |>.cell (World.block_lt_of_cell? _ _ f0)).trans f0)
  have k1 : ((w1.alloc (.map #[] 0)).setCell ⟨b, 0, none⟩ (.map (some w1.heap.size))).cell? ⟨w.heap.size, 1, none⟩ = some (.int .u32 (p.k : Int)) :=
    (World.cell?_setCell_other _ _ _ _ (fun e => by injection e with e; omega)).trans (((Below.refl w1.heap.size w1).alloc (Nat.le_refl _) _ |>.cell (World.block_lt_of_cell? _ _ f1)).trans f1)
  generalize (w1.alloc (.map #[] 0)).setCell ⟨b, 0, none⟩ (.map (some w1.heap.size)) = W at *
  generalize w1.heap.size = g at *
  have hcW := hs1.cell
  have HZ := hide hsz1
  clear hsz1 f0 f1 hc hfz hc2 hf2 hs hbw hmm q0
  go_still_tail 6, (by kernel_rfl)
  change wpList _ _ _ _ _ W.drew
  obtain ⟨D, hD, hh, hsz, hnd⟩ : SetD W g [] := by
    rcases hs1.2 with ⟨h0, _⟩ | ⟨g', h0, hd⟩
    · cases h0
    · injection h0 with e; subst e; exact hd
  have hHH := hide hh
  clear hh k0 k1 hcW
  refine wpList_mapUpdate_own _ rfl _ _ _ 97 rfl 34 123 lawPid Try.underlying97 unitElem g 0 D rfl hD.drew (by decide) _ _ _ rfl rfl (key_pr p) (.agg []) [] unitElem_mk ?_
  intro w2 hD2 hg2
  have hset := SetD.put hD hHH.out hsz hnd (by simp) (.agg []) hD2
  have hbe : g ≠ b := (hs1.mlt g rfl).2
  have hblt2 := hs1.lt
  have hat : SetAt w2 b (some g) [p] := ⟨(hg2.block b hblt2 (fun e => by injection e with e; exact hbe e.symm)).trans hs1.1, .inr ⟨g, rfl, hset⟩⟩
  have hmv : Mov w none (some g) := .inr ⟨g, rfl, HZ.out⟩
  have ht : Turn w w2 b none := ht0.trans (Turn.of_grown (w := W) (b := b) (mg := some g) ⟨hg2.os, hg2.tape, hg2.output, hg2.size, hg2.block⟩ (fun i hi => .inr (.inl (by rw [← hi])))) hmv
  have HF := hide (And.intro hat (And.intro ht hmv))
  clear hat ht hset hD2 hg2 hD hHH hs1 ht0 hmv
  go_wp2
  go_ret
  exact ⟨rfl, _, HF.out.1, HF.out.2.1, HF.out.2.2⟩
/-- Add, of whatever set. -/
def AddsTo (w : World) (b : Nat) (mg : Option Nat) (acc : List Pr) (p : Pr) (e : Ending) (w' : World) : Prop := e = .returned (.bool (!decide (p ∈ acc))) ∧ SetsTo w b mg (dedS acc p) w'
theorem sadd_any (b : Nat) (mg : Option Nat) (acc : List Pr) (p : Pr) (w : World) (h : SetAt w b mg acc) (hn : acc.length < maxLen) :
    Calls Try.prog 87 #[.pointer (some ⟨b, 0, none⟩), .agg #[.int .u16 (p.i : Int), .int .u32 (p.k : Int)]] w (AddsTo w b mg acc p) := by
  unfold AddsTo dedS
  by_cases hp : p ∈ acc
  · rw [if_pos hp, decide_eq_true hp]
    exact (sadd_in b mg acc p w h hp).mono fun e w' ⟨he, hb⟩ => ⟨he, mg, h.later hb, Turn.of_below hb b mg, Mov.refl _ _⟩
  · rw [if_neg hp, decide_eq_false hp]
    rcases h.2 with ⟨rfl, rfl⟩ | ⟨g, rfl, hd⟩
    · exact sadd_first b p w h
    · exact sadd_new b g acc p w h hp hn
/-! ### Drop -/
/-- Drop, of whatever set. -/
def DropsTo (w : World) (b : Nat) (mg : Option Nat) (acc : List Pr) (p : Pr) (e : Ending) (w' : World) : Prop := e = .returned (.bool (decide (p ∈ acc))) ∧ SetsTo w b mg (acc.filter fun x => decide (x ≠ p)) w'
end Go.Proofs.Ythloamhodapmpaa
