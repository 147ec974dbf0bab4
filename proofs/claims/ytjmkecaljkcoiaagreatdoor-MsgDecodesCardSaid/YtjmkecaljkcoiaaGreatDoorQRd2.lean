import Derived.Defers
import Derived.Tactics
import Derived.Tactics2
import Derived.Laws.Pointers
import Derived.Deep.WholeRow
import Derived.Test.YtjmkecaljkcoiaaGreatDoorQRd1
namespace Go.Proofs.YtjmkecaljkcoiaaGreatDoor
open Go.RowKit
set_option linter.unusedVariables false
set_option linter.unusedSimpArgs false
def Blk (w : World) (p : Nat) (cs : Array Value) (T : TypeId) : Prop := w.heap[p]? = some (.cells cs T (0, 0))
theorem Blk.cell {w : World} {p : Nat} {cs : Array Value} {T : TypeId} (h : Blk w p cs T) (i : Nat) : w.cell? ⟨p, i, none⟩ = cs[i]? := by
  unfold Blk at h
  simp [World.cell?, h]
section
variable {w w' : World} {p b : Nat} {mg : Option Nat} {cs : Array Value} {T : TypeId}
theorem Blk.lt (h : Blk w p cs T) : p < w.heap.size := lt_of_heap h
theorem Blk.turn (h : Blk w p cs T) (ht : Turn w w' b mg) (h1 : p ≠ b) (h2 : some p ≠ mg) : Blk w' p cs T := (ht.block p h.lt h1 h2).trans h
theorem Blk.later (h : Blk w p cs T) (hb : Below w.heap.size w w') : Blk w' p cs T := (hb.block p h.lt).trans h
theorem Blk.other (h : Blk w p cs T) {q : Addr} (hq : q.block ≠ p) (u : Value) : Blk (w.setCell q u) p cs T := (Below.heap_setCell w q u p (fun e => hq e.symm)).trans h
theorem Blk.set_ (h : Blk w p cs T) (i : Nat) (u : Value) : Blk (w.setCell ⟨p, i, none⟩ u) p (cs.setIfInBounds i u) T := by
  have := heap_setCell_same w p i cs _ u h
  simpa [Blk] using this
theorem Blk.frozen (h : Blk w p cs T) (i : Nat) : w.frozen? ⟨p, i, none⟩ = false := frozen_of_row w p i _ _ h
theorem Turn.setOne (h : Turn w w' b (some p)) (i : Nat) (u : Value) : Turn w (w'.setCell ⟨p, i, none⟩ u) b (some p) :=
  ⟨h.os, h.tape, h.output, Nat.le_trans h.size (by simp), fun j h1 h2 h3 => (Below.heap_setCell w' ⟨p, i, none⟩ u j (fun e => h3 (by rw [e]))).trans (h.block j h1 h2 h3)⟩
end
def CloP (w : World) (b : Nat) (F G : Value → World → Prop) (lr : List UInt8) (t : Nat) (e : Ending) (w' : World) : Prop :=
  ∃ v l', e = .returned v ∧ F v w' ∧ RdAt w' b l' t ∧ Turn w w' b none ∧ (t = 0 → l' = lr ∧ G v w')
def WholeG (w : World) (b : Nat) (z : Value) (G : Value → World → Prop) (l lr : List UInt8) (t : Nat) (e : Ending) (w' : World) : Prop :=
  (t = 0 ∧ ∃ v, e = .returned v ∧ G v w' ∧ RdAt w' b lr 0 ∧ Turn w w' b none) ∨ (t ≠ 0 ∧ e = .returned z ∧ RdAt w' b l t ∧ Turn w w' b none)
theorem WholeG.ahead {w w1 : World} {b : Nat} {z : Value} {G : Value → World → Prop} {l lr : List UInt8} {t : Nat} {e : Ending} {w' : World} (hb : Below w.heap.size w w1) (h : WholeG w1 b z G l lr t e w') : WholeG w b z G l lr t e w' := by
  rcases h with ⟨h1, v, h2, h3, h4, h5⟩ | ⟨h1, h2, h3, h4⟩
  · exact .inl ⟨h1, v, h2, h3, h4, Turn.ahead hb h5⟩
  · exact .inr ⟨h1, h2, h3, Turn.ahead hb h4⟩
theorem dnum_ok (b p3 p5 p4 : Nat) (l : List UInt8) (w : World) (h : RdAt w b l 0) (h3 : w.cell? ⟨p3, 0, none⟩ = some (.pointer (some ⟨b, 0, none⟩))) :
    CallsD Tryz.prog 203 #[.pointer (some ⟨p3, 0, none⟩), .pointer (some ⟨p5, 0, none⟩), .pointer (some ⟨p4, 0, none⟩)] .returning w fun e u' w' => u' = .returning ∧ (e = .returned (.tuple #[]) ∧ w = w') := by
  obtain ⟨A, c, h⟩ := h
  obtain ⟨f0, f1⟩ := h.cells
  clear h
  go_enter_d Tryz.func203, Tryz.ntmps203
  go_wp2
  first | go_end0 | refine bodyPost_ret (results_none rfl _ _ _) rfl ?_
  exact ⟨rfl, rfl⟩
theorem dnum_back (b p3 p5 p4 t : Nat) (n : Nat) (l l' : List UInt8) (A : Option Addr) (c : Nat) (w : World) (h : RdAt w b l' t) (ht : t ≠ 0) (h3 : w.cell? ⟨p3, 0, none⟩ = some (.pointer (some ⟨b, 0, none⟩))) (h5 : w.cell? ⟨p5, 0, none⟩ = some (.slice A l.length c))
    (hA : Bs w b A l.length l) (hc : l.length ≤ c) (hm : c ≤ maxLen) (h4 : Blk w p4 #[.int .u64 n] 22) (hb4 : b < p4) (hb5 : p4 ≠ p5) (hb3 : p4 ≠ p3) :
    CallsD Tryz.prog 203 #[.pointer (some ⟨p3, 0, none⟩), .pointer (some ⟨p5, 0, none⟩), .pointer (some ⟨p4, 0, none⟩)] .returning w fun e u' w' => u' = .returning ∧ (e = .returned (.tuple #[]) ∧ (RdAt w' b l t ∧ Blk w' p4 #[.int .u64 0] 22 ∧ Turn w w' b (some p4))) := by
  obtain ⟨A', c', h⟩ := h
  obtain ⟨f0, f1⟩ := h.cells
  have fz := h.frozen
  have hbl := h.lt
  have g0 := h4.cell 0
  have gz0 := h4.frozen 0
  have hp4 := h4.lt
  have hp3 := World.block_lt_of_cell? _ _ h3
  have hp5 := World.block_lt_of_cell? _ _ h5
  simp only at hp3 hp5
  simp only [List.getElem?_toArray, List.getElem?_cons_zero] at g0
  have t1 : ((t : Int) != 0) = true := by simp; omega
  have hz1 : RdAt ((w.setCell ⟨p4, 0, none⟩ (.int .u64 0)).setCell ⟨b, 0, none⟩ (.slice A l.length c)) b l t := ((h.other (p := ⟨p4, 0, none⟩) hb4 (.int .u64 0)).set0 (hA.setCell (p := ⟨p4, 0, none⟩) (Nat.le_of_lt hb4) (.int .u64 0)) hc hm).at_
  have hz2 : Blk ((w.setCell ⟨p4, 0, none⟩ (.int .u64 0)).setCell ⟨b, 0, none⟩ (.slice A l.length c)) p4 #[.int .u64 0] 22 := Blk.other (h4.set_ 0 (.int .u64 0)) (q := ⟨b, 0, none⟩) (by show b ≠ p4; omega) _
  have hz3 : Turn w ((w.setCell ⟨p4, 0, none⟩ (.int .u64 0)).setCell ⟨b, 0, none⟩ (.slice A l.length c)) b (some p4) := Turn.set_ ((Turn.refl w b (some p4)).setOne 0 (.int .u64 0)) rfl _
  have HZ := Lib.hid (And.intro hz1 (And.intro hz2 hz3))
  clear hz1 hz2 hz3 h h4 ht hA
  generalize l.length = n9 at *
  go_enter_d Tryz.func203, Tryz.ntmps203
  go_wp2
  first | go_end0 | refine bodyPost_ret (results_none rfl _ _ _) rfl ?_
  exact ⟨rfl, HZ.out⟩
set_option maxRecDepth 100000 in
theorem num_whole (b p q : Nat) (l lr : List UInt8) (t : Nat) (G : Value → World → Prop) (w : World) (h : RdAt w b l 0) (hG : ∀ v W i x, w.heap.size < W.heap.size → G v W → G v (W.setCell ⟨w.heap.size + 1, i, none⟩ x))
    (cn : ∀ W, Below w.heap.size w W → w.heap.size + 2 ≤ W.heap.size → RdAt W b l 0 → Calls Tryz.prog 158 #[.pointer (some ⟨p, 0, none⟩), .pointer (some ⟨q, 0, none⟩)] W (CloP W b (fun v _ => ∃ (n : Nat), v = .int .u64 n) G lr t)) :
    Calls Tryz.prog 157 #[.pointer (some ⟨b, 0, none⟩), .func (.func 158) #[] #[.pointer (some ⟨p, 0, none⟩), .pointer (some ⟨q, 0, none⟩)]] w (WholeG w b (.int .u64 0) G l lr t) := by
  have hmf : ∀ (fn : Fn) (first cap : Array Value) (w : World), (Instr.makeFunc fn first cap).run Tryz.prog w = .ok (.func fn first cap) w := fun _ _ _ _ => rfl
  obtain ⟨A, c, h0⟩ := id h
  have hbs := h0.2.1
  have hlc := h0.2.2.1
  have hcm := h0.2.2.2
  have hlt := h.lt
  have hb1 : Below w.heap.size w ((w.alloc (.cells #[.pointer (some ⟨b, 0, none⟩)] 91)).alloc (.cells #[.int .u64 0] 22)) := ((Below.refl _ _).alloc (Nat.le_refl _) _).alloc (by simp) _
  have ce := fun W (h : RdAt W b l 0) => err_any b l 0 W h
  obtain ⟨w1, hw1⟩ : ∃ w1, w1 = ((w.alloc (.cells #[.pointer (some ⟨b, 0, none⟩)] 91)).alloc (.cells #[.int .u64 0] 22)) := ⟨_, rfl⟩
  have hs1 : w1.heap.size = w.heap.size + 2 := by rw [hw1]; simp
  have b3 : Blk w1 w.heap.size #[.pointer (some ⟨b, 0, none⟩)] 91 := by
    rw [hw1]; exact (Below.heap_alloc _ _ _ (by simp)).trans (heap_alloc_new w _)
  have b4 : Blk w1 (w.heap.size + 1) #[.int .u64 0] 22 := by
    rw [hw1]
    have := heap_alloc_new (w.alloc (.cells #[.pointer (some ⟨b, 0, none⟩)] 91)) (.cells #[.int .u64 0] 22)
    simpa [Blk] using this
  rw [← hw1] at hb1
  have h1 := h.later hb1
  have h10 := h0.later hb1
  have HN := Lib.hid cn
  have HG := Lib.hid hG
  clear cn hG
  go_enter_defers Tryz.func157, Tryz.ntmps157
  go_wp2_with fail
  rw [← hw1]
  clear hw1 h h0
  refine (ce w1 h1).mono ?_
  rintro e w' ⟨rfl, rfl⟩
  clear ce
  obtain ⟨f0, f1⟩ := h10.cells
  have g3 := b3.cell 0
  simp only [List.getElem?_toArray, List.getElem?_cons_zero] at g3
  have hb2 : Below w1.heap.size w1 (w1.alloc (.cells #[.slice A l.length c] 39)) := (Below.refl _ _).alloc (Nat.le_refl _) _
  have b5 : Blk (w1.alloc (.cells #[.slice A l.length c] 39)) w1.heap.size #[.slice A l.length c] 39 := heap_alloc_new w1 _
  have hle : w.heap.size ≤ w1.heap.size := by omega
  have hH1 := hide hs1
  clear hs1
  go_wp2_with fail
  have h2 := h1.later hb2
  have k3 := b3.later hb2
  have k4 := b4.later hb2
  have hbz := hb1.trans (hb2.mono hle)
  generalize (w1.alloc (.cells #[.slice A l.length c] 39)) = w2 at b5 h2 k3 k4 hbz ⊢
  have hA2 := hbs.below (hbz.mono (Nat.le_of_lt hlt))
  have hw2 : w.heap.size + 2 ≤ w2.heap.size := by have := b5.lt; have := hH1.out; omega
  clear hb2 f0 f1 g3 h10 h1 b3 b4 hb1
  refine (HN.out w2 hbz hw2 h2).mono ?_
  rintro e w3 ⟨_, l', rfl, ⟨n, rfl⟩, h3, ht3, hl'⟩
  have n3 : w.heap.size ≠ b := by omega
  have n4 : w.heap.size + 1 ≠ b := by omega
  have n5 : w1.heap.size ≠ b := by omega
  have m3 := k3.turn ht3 n3 (by simp)
  have m4 := k4.turn ht3 n4 (by simp)
  have m5 := b5.turn ht3 n5 (by simp)
  have hA3 := hA2.keep (w' := w3) (fun p hp => World.cell?_of_block (ht3.block p.block (by have := hbz.size; omega) (by omega) (by simp)))
  have htz := Turn.ahead hbz ht3
  have hw3 := ht3.size
  clear h2 k3 k4 b5 ht3 hA2 HN
  have hH2 := hH1.out
  have hl4 : t = 0 → l' = lr ∧ G (.int .u64 n) (w3.setCell ⟨w.heap.size + 1, 0, none⟩ (.int .u64 n)) := fun e => by
    obtain ⟨e1, hg⟩ := hl' e
    have hG := HG.out
    exact ⟨e1, (hG _ _ 0 (.int .u64 n) (by first | omega | (simp; omega)) hg)⟩
  have x3 := (m3.other (q := ⟨w.heap.size + 1, 0, none⟩) (by simp) (.int .u64 n))
  have x4 := (m4.set_ 0 (.int .u64 n))
  have x5 := (m5.other (q := ⟨w.heap.size + 1, 0, none⟩) (by simp; omega) (.int .u64 n))
  have hx := (h3.other (p := ⟨w.heap.size + 1, 0, none⟩) (by simp; omega) (.int .u64 n))
  have hAx := (hA3.setCell (p := ⟨w.heap.size + 1, 0, none⟩) (by simp; omega) (.int .u64 n))
  have htx := (htz.setNew (p := ⟨w.heap.size + 1, 0, none⟩) (by simp) (.int .u64 n))
  have gc0 := m4.cell 0
  have gz0 := m4.frozen 0
  simp only [List.getElem?_toArray, List.getElem?_cons_zero] at gc0
  have n35 : w.heap.size + 1 ≠ w1.heap.size := by omega
  have hL := Lib.hid hl4
  clear hH2 hl' hl4 m3 m4 m5 hA3 htz h3 HG
  go_wp2
  generalize (w3.setCell ⟨w.heap.size + 1, 0, none⟩ (.int .u64 n)) = w4 at x3 x4 x5 hx hAx htx hL ⊢
  clear gc0 gz0
  have g3 := x3.cell 0
  have g5 := x5.cell 0
  simp only [List.getElem?_toArray, List.getElem?_cons_zero] at g3 g5
  refine leaves_cons (f := 203) (args := #[.pointer (some ⟨w.heap.size, 0, none⟩), .pointer (some ⟨w1.heap.size, 0, none⟩), .pointer (some ⟨w.heap.size + 1, 0, none⟩)]) (by simp) (by simp [go_sem]) ?_
  by_cases ht : t = 0
  · subst ht
    obtain ⟨rfl, hg⟩ := hL.out rfl
    refine (dnum_ok b _ _ _ l' w4 hx g3).mono ?_
    rintro e u' w'' ⟨rfl, rfl, rfl⟩
    have hr : WholeG w b (.int .u64 0) G l l' 0 (.returned (.int .u64 n)) w4 := .inl ⟨rfl, _, rfl, hg, hx, htx⟩
    refine ⟨.int .u64 n, ?_, hr⟩
    have c40 : w4.cell? ⟨w.heap.size + 1, 0, none⟩ = some (.int .u64 n) := x4.cell 0
    simp [results, Tryz.results157, go_sem, c40]
  · refine (dnum_back b _ _ _ t n l l' A c w4 hx ht g3 g5 hAx hlc hcm x4 (by omega) n35 (by omega)).mono ?_
    rintro e u' w5 ⟨rfl, rfl, h5, x6, ht5⟩
    have hr : WholeG w b (.int .u64 0) G l lr t (.returned (.int .u64 0)) w5 := .inr ⟨ht, rfl, h5, htx.trans ht5 (.inr ⟨_, rfl, by omega⟩)⟩
    refine ⟨.int .u64 0, ?_, hr⟩
    have c60 : w5.cell? ⟨w.heap.size + 1, 0, none⟩ = some (.int .u64 0) := x6.cell 0
    simp [results, Tryz.results157, go_sem, c60]
set_option maxRecDepth 100000 in
theorem num_stop (f : Value) (b t : Nat) (l : List UInt8) (w : World) (h : RdAt w b l t) (ht : t ≠ 0) :
    Calls Tryz.prog 157 #[.pointer (some ⟨b, 0, none⟩), f] w (ReadsP w b (.int .u64 0) l t) := by
  have hb1 : Below w.heap.size w ((w.alloc (.cells #[.pointer (some ⟨b, 0, none⟩)] 91)).alloc (.cells #[.int .u64 0] 22)) := ((Below.refl _ _).alloc (Nat.le_refl _) _).alloc (by simp) _
  have hbl := h.lt
  have ce := fun W (h : RdAt W b l t) => err_any b l t W h
  have t1 : ((t : Int) != 0) = true := by simp; omega
  have h1 := h.later hb1
  obtain ⟨w1, hw1⟩ : ∃ w1, w1 = ((w.alloc (.cells #[.pointer (some ⟨b, 0, none⟩)] 91)).alloc (.cells #[.int .u64 0] 22)) := ⟨_, rfl⟩
  have b4 : Blk w1 (w.heap.size + 1) #[.int .u64 0] 22 := by
    rw [hw1]
    have := heap_alloc_new (w.alloc (.cells #[.pointer (some ⟨b, 0, none⟩)] 91)) (.cells #[.int .u64 0] 22)
    simpa [Blk] using this
  rw [← hw1] at hb1 h1
  go_enter_defers Tryz.func157, Tryz.ntmps157
  go_wp2_with fail
  rw [← hw1]
  clear hw1 h ht
  refine (ce w1 h1).mono ?_
  rintro e w' ⟨rfl, rfl⟩
  clear ce
  have gc0 := b4.cell 0
  have gz0 := b4.frozen 0
  simp only [List.getElem?_toArray, List.getElem?_cons_zero] at gc0
  have x4 := (b4.set_ 0 (.int .u64 0))
  have hbx := (hb1.setCell (p := ⟨w.heap.size + 1, 0, none⟩) (by simp) (.int .u64 0))
  have hlt := h1.lt
  have hbw : b < w.heap.size := hbl
  have hx := (h1.other (p := ⟨w.heap.size + 1, 0, none⟩) (by simp; omega) (.int .u64 0))
  clear b4 hb1 h1
  go_wp2
  generalize (w1.setCell ⟨w.heap.size + 1, 0, none⟩ (.int .u64 0)) = w2 at x4 hbx hx ⊢
  have c40 : w2.cell? ⟨w.heap.size + 1, 0, none⟩ = some (.int .u64 0) := x4.cell 0
  refine ⟨.int .u64 0, ?_, ?_⟩
  · simp [results, Tryz.results157, go_sem, c40]
  · exact ⟨rfl, hx, Turn.of_below hbx b none⟩
theorem dtruth_ok (b p3 p5 p4 : Nat) (l : List UInt8) (w : World) (h : RdAt w b l 0) (h3 : w.cell? ⟨p3, 0, none⟩ = some (.pointer (some ⟨b, 0, none⟩))) :
    CallsD Tryz.prog 207 #[.pointer (some ⟨p3, 0, none⟩), .pointer (some ⟨p5, 0, none⟩), .pointer (some ⟨p4, 0, none⟩)] .returning w fun e u' w' => u' = .returning ∧ (e = .returned (.tuple #[]) ∧ w = w') := by
  obtain ⟨A, c, h⟩ := h
  obtain ⟨f0, f1⟩ := h.cells
  clear h
  go_enter_d Tryz.func207, Tryz.ntmps207
  go_wp2
  first | go_end0 | refine bodyPost_ret (results_none rfl _ _ _) rfl ?_
  exact ⟨rfl, rfl⟩
theorem dtruth_back (b p3 p5 p4 t : Nat) (n : Bool) (l l' : List UInt8) (A : Option Addr) (c : Nat) (w : World) (h : RdAt w b l' t) (ht : t ≠ 0) (h3 : w.cell? ⟨p3, 0, none⟩ = some (.pointer (some ⟨b, 0, none⟩))) (h5 : w.cell? ⟨p5, 0, none⟩ = some (.slice A l.length c))
    (hA : Bs w b A l.length l) (hc : l.length ≤ c) (hm : c ≤ maxLen) (h4 : Blk w p4 #[.bool n] 4) (hb4 : b < p4) (hb5 : p4 ≠ p5) (hb3 : p4 ≠ p3) :
    CallsD Tryz.prog 207 #[.pointer (some ⟨p3, 0, none⟩), .pointer (some ⟨p5, 0, none⟩), .pointer (some ⟨p4, 0, none⟩)] .returning w fun e u' w' => u' = .returning ∧ (e = .returned (.tuple #[]) ∧ (RdAt w' b l t ∧ Blk w' p4 #[.bool false] 4 ∧ Turn w w' b (some p4))) := by
  obtain ⟨A', c', h⟩ := h
  obtain ⟨f0, f1⟩ := h.cells
  have fz := h.frozen
  have hbl := h.lt
  have g0 := h4.cell 0
  have gz0 := h4.frozen 0
  have hp4 := h4.lt
  have hp3 := World.block_lt_of_cell? _ _ h3
  have hp5 := World.block_lt_of_cell? _ _ h5
  simp only at hp3 hp5
  simp only [List.getElem?_toArray, List.getElem?_cons_zero] at g0
  have t1 : ((t : Int) != 0) = true := by simp; omega
  have hz1 : RdAt ((w.setCell ⟨p4, 0, none⟩ (.bool false)).setCell ⟨b, 0, none⟩ (.slice A l.length c)) b l t := ((h.other (p := ⟨p4, 0, none⟩) hb4 (.bool false)).set0 (hA.setCell (p := ⟨p4, 0, none⟩) (Nat.le_of_lt hb4) (.bool false)) hc hm).at_
  have hz2 : Blk ((w.setCell ⟨p4, 0, none⟩ (.bool false)).setCell ⟨b, 0, none⟩ (.slice A l.length c)) p4 #[.bool false] 4 := Blk.other (h4.set_ 0 (.bool false)) (q := ⟨b, 0, none⟩) (by show b ≠ p4; omega) _
  have hz3 : Turn w ((w.setCell ⟨p4, 0, none⟩ (.bool false)).setCell ⟨b, 0, none⟩ (.slice A l.length c)) b (some p4) := Turn.set_ ((Turn.refl w b (some p4)).setOne 0 (.bool false)) rfl _
  have HZ := Lib.hid (And.intro hz1 (And.intro hz2 hz3))
  clear hz1 hz2 hz3 h h4 ht hA
  generalize l.length = n9 at *
  go_enter_d Tryz.func207, Tryz.ntmps207
  go_wp2
  first | go_end0 | refine bodyPost_ret (results_none rfl _ _ _) rfl ?_
  exact ⟨rfl, HZ.out⟩
set_option maxRecDepth 100000 in
theorem truth_whole (b p : Nat) (l lr : List UInt8) (t : Nat) (G : Value → World → Prop) (w : World) (h : RdAt w b l 0) (hG : ∀ v W i x, w.heap.size < W.heap.size → G v W → G v (W.setCell ⟨w.heap.size + 1, i, none⟩ x))
    (cn : ∀ W, Below w.heap.size w W → w.heap.size + 2 ≤ W.heap.size → RdAt W b l 0 → Calls Tryz.prog 168 #[.pointer (some ⟨p, 0, none⟩)] W (CloP W b (fun v _ => ∃ (n : Bool), v = .bool n) G lr t)) :
    Calls Tryz.prog 167 #[.pointer (some ⟨b, 0, none⟩), .func (.func 168) #[] #[.pointer (some ⟨p, 0, none⟩)]] w (WholeG w b (.bool false) G l lr t) := by
  have hmf : ∀ (fn : Fn) (first cap : Array Value) (w : World), (Instr.makeFunc fn first cap).run Tryz.prog w = .ok (.func fn first cap) w := fun _ _ _ _ => rfl
  obtain ⟨A, c, h0⟩ := id h
  have hbs := h0.2.1
  have hlc := h0.2.2.1
  have hcm := h0.2.2.2
  have hlt := h.lt
  have hb1 : Below w.heap.size w ((w.alloc (.cells #[.pointer (some ⟨b, 0, none⟩)] 91)).alloc (.cells #[.bool false] 4)) := ((Below.refl _ _).alloc (Nat.le_refl _) _).alloc (by simp) _
  have ce := fun W (h : RdAt W b l 0) => err_any b l 0 W h
  obtain ⟨w1, hw1⟩ : ∃ w1, w1 = ((w.alloc (.cells #[.pointer (some ⟨b, 0, none⟩)] 91)).alloc (.cells #[.bool false] 4)) := ⟨_, rfl⟩
  have hs1 : w1.heap.size = w.heap.size + 2 := by rw [hw1]; simp
  have b3 : Blk w1 w.heap.size #[.pointer (some ⟨b, 0, none⟩)] 91 := by
    rw [hw1]; exact (Below.heap_alloc _ _ _ (by simp)).trans (heap_alloc_new w _)
  have b4 : Blk w1 (w.heap.size + 1) #[.bool false] 4 := by
    rw [hw1]
    have := heap_alloc_new (w.alloc (.cells #[.pointer (some ⟨b, 0, none⟩)] 91)) (.cells #[.bool false] 4)
    simpa [Blk] using this
  rw [← hw1] at hb1
  have h1 := h.later hb1
  have h10 := h0.later hb1
  have HN := Lib.hid cn
  have HG := Lib.hid hG
  clear cn hG
  go_enter_defers Tryz.func167, Tryz.ntmps167
  go_wp2_with fail
  rw [← hw1]
  clear hw1 h h0
  refine (ce w1 h1).mono ?_
  rintro e w' ⟨rfl, rfl⟩
  clear ce
  obtain ⟨f0, f1⟩ := h10.cells
  have g3 := b3.cell 0
  simp only [List.getElem?_toArray, List.getElem?_cons_zero] at g3
  have hb2 : Below w1.heap.size w1 (w1.alloc (.cells #[.slice A l.length c] 39)) := (Below.refl _ _).alloc (Nat.le_refl _) _
  have b5 : Blk (w1.alloc (.cells #[.slice A l.length c] 39)) w1.heap.size #[.slice A l.length c] 39 := heap_alloc_new w1 _
  have hle : w.heap.size ≤ w1.heap.size := by omega
  have hH1 := hide hs1
  clear hs1
  go_wp2_with fail
  have h2 := h1.later hb2
  have k3 := b3.later hb2
  have k4 := b4.later hb2
  have hbz := hb1.trans (hb2.mono hle)
  generalize (w1.alloc (.cells #[.slice A l.length c] 39)) = w2 at b5 h2 k3 k4 hbz ⊢
  have hA2 := hbs.below (hbz.mono (Nat.le_of_lt hlt))
  have hw2 : w.heap.size + 2 ≤ w2.heap.size := by have := b5.lt; have := hH1.out; omega
  clear hb2 f0 f1 g3 h10 h1 b3 b4 hb1
  refine (HN.out w2 hbz hw2 h2).mono ?_
  rintro e w3 ⟨_, l', rfl, ⟨n, rfl⟩, h3, ht3, hl'⟩
  have n3 : w.heap.size ≠ b := by omega
  have n4 : w.heap.size + 1 ≠ b := by omega
  have n5 : w1.heap.size ≠ b := by omega
  have m3 := k3.turn ht3 n3 (by simp)
  have m4 := k4.turn ht3 n4 (by simp)
  have m5 := b5.turn ht3 n5 (by simp)
  have hA3 := hA2.keep (w' := w3) (fun p hp => World.cell?_of_block (ht3.block p.block (by have := hbz.size; omega) (by omega) (by simp)))
  have htz := Turn.ahead hbz ht3
  have hw3 := ht3.size
  clear h2 k3 k4 b5 ht3 hA2 HN
  have hH2 := hH1.out
  have hl4 : t = 0 → l' = lr ∧ G (.bool n) (w3.setCell ⟨w.heap.size + 1, 0, none⟩ (.bool n)) := fun e => by
    obtain ⟨e1, hg⟩ := hl' e
    have hG := HG.out
    exact ⟨e1, (hG _ _ 0 (.bool n) (by first | omega | (simp; omega)) hg)⟩
  have x3 := (m3.other (q := ⟨w.heap.size + 1, 0, none⟩) (by simp) (.bool n))
  have x4 := (m4.set_ 0 (.bool n))
  have x5 := (m5.other (q := ⟨w.heap.size + 1, 0, none⟩) (by simp; omega) (.bool n))
  have hx := (h3.other (p := ⟨w.heap.size + 1, 0, none⟩) (by simp; omega) (.bool n))
  have hAx := (hA3.setCell (p := ⟨w.heap.size + 1, 0, none⟩) (by simp; omega) (.bool n))
  have htx := (htz.setNew (p := ⟨w.heap.size + 1, 0, none⟩) (by simp) (.bool n))
  have gc0 := m4.cell 0
  have gz0 := m4.frozen 0
  simp only [List.getElem?_toArray, List.getElem?_cons_zero] at gc0
  have n35 : w.heap.size + 1 ≠ w1.heap.size := by omega
  have hL := Lib.hid hl4
  clear hH2 hl' hl4 m3 m4 m5 hA3 htz h3 HG
  go_wp2
  generalize (w3.setCell ⟨w.heap.size + 1, 0, none⟩ (.bool n)) = w4 at x3 x4 x5 hx hAx htx hL ⊢
  clear gc0 gz0
  have g3 := x3.cell 0
  have g5 := x5.cell 0
  simp only [List.getElem?_toArray, List.getElem?_cons_zero] at g3 g5
  refine leaves_cons (f := 207) (args := #[.pointer (some ⟨w.heap.size, 0, none⟩), .pointer (some ⟨w1.heap.size, 0, none⟩), .pointer (some ⟨w.heap.size + 1, 0, none⟩)]) (by simp) (by simp [go_sem]) ?_
  by_cases ht : t = 0
  · subst ht
    obtain ⟨rfl, hg⟩ := hL.out rfl
    refine (dtruth_ok b _ _ _ l' w4 hx g3).mono ?_
    rintro e u' w'' ⟨rfl, rfl, rfl⟩
    have hr : WholeG w b (.bool false) G l l' 0 (.returned (.bool n)) w4 := .inl ⟨rfl, _, rfl, hg, hx, htx⟩
    refine ⟨.bool n, ?_, hr⟩
    have c40 : w4.cell? ⟨w.heap.size + 1, 0, none⟩ = some (.bool n) := x4.cell 0
    simp [results, Tryz.results167, go_sem, c40]
  · refine (dtruth_back b _ _ _ t n l l' A c w4 hx ht g3 g5 hAx hlc hcm x4 (by omega) n35 (by omega)).mono ?_
    rintro e u' w5 ⟨rfl, rfl, h5, x6, ht5⟩
    have hr : WholeG w b (.bool false) G l lr t (.returned (.bool false)) w5 := .inr ⟨ht, rfl, h5, htx.trans ht5 (.inr ⟨_, rfl, by omega⟩)⟩
    refine ⟨.bool false, ?_, hr⟩
    have c60 : w5.cell? ⟨w.heap.size + 1, 0, none⟩ = some (.bool false) := x6.cell 0
    simp [results, Tryz.results167, go_sem, c60]
set_option maxRecDepth 100000 in
theorem truth_stop (f : Value) (b t : Nat) (l : List UInt8) (w : World) (h : RdAt w b l t) (ht : t ≠ 0) :
    Calls Tryz.prog 167 #[.pointer (some ⟨b, 0, none⟩), f] w (ReadsP w b (.bool false) l t) := by
  have hb1 : Below w.heap.size w ((w.alloc (.cells #[.pointer (some ⟨b, 0, none⟩)] 91)).alloc (.cells #[.bool false] 4)) := ((Below.refl _ _).alloc (Nat.le_refl _) _).alloc (by simp) _
  have hbl := h.lt
  have ce := fun W (h : RdAt W b l t) => err_any b l t W h
  have t1 : ((t : Int) != 0) = true := by simp; omega
  have h1 := h.later hb1
  obtain ⟨w1, hw1⟩ : ∃ w1, w1 = ((w.alloc (.cells #[.pointer (some ⟨b, 0, none⟩)] 91)).alloc (.cells #[.bool false] 4)) := ⟨_, rfl⟩
  have b4 : Blk w1 (w.heap.size + 1) #[.bool false] 4 := by
    rw [hw1]
    have := heap_alloc_new (w.alloc (.cells #[.pointer (some ⟨b, 0, none⟩)] 91)) (.cells #[.bool false] 4)
    simpa [Blk] using this
  rw [← hw1] at hb1 h1
  go_enter_defers Tryz.func167, Tryz.ntmps167
  go_wp2_with fail
  rw [← hw1]
  clear hw1 h ht
  refine (ce w1 h1).mono ?_
  rintro e w' ⟨rfl, rfl⟩
  clear ce
  have gc0 := b4.cell 0
  have gz0 := b4.frozen 0
  simp only [List.getElem?_toArray, List.getElem?_cons_zero] at gc0
  have x4 := (b4.set_ 0 (.bool false))
  have hbx := (hb1.setCell (p := ⟨w.heap.size + 1, 0, none⟩) (by simp) (.bool false))
  have hlt := h1.lt
  have hbw : b < w.heap.size := hbl
  have hx := (h1.other (p := ⟨w.heap.size + 1, 0, none⟩) (by simp; omega) (.bool false))
  clear b4 hb1 h1
  go_wp2
  generalize (w1.setCell ⟨w.heap.size + 1, 0, none⟩ (.bool false)) = w2 at x4 hbx hx ⊢
  have c40 : w2.cell? ⟨w.heap.size + 1, 0, none⟩ = some (.bool false) := x4.cell 0
  refine ⟨.bool false, ?_, ?_⟩
  · simp [results, Tryz.results167, go_sem, c40]
  · exact ⟨rfl, hx, Turn.of_below hbx b none⟩
theorem dpid_ok (b p3 p5 p4 : Nat) (l : List UInt8) (w : World) (h : RdAt w b l 0) (h3 : w.cell? ⟨p3, 0, none⟩ = some (.pointer (some ⟨b, 0, none⟩))) :
    CallsD Tryz.prog 204 #[.pointer (some ⟨p3, 0, none⟩), .pointer (some ⟨p5, 0, none⟩), .pointer (some ⟨p4, 0, none⟩)] .returning w fun e u' w' => u' = .returning ∧ (e = .returned (.tuple #[]) ∧ w = w') := by
  obtain ⟨A, c, h⟩ := h
  obtain ⟨f0, f1⟩ := h.cells
  clear h
  go_enter_d Tryz.func204, Tryz.ntmps204
  go_wp2
  first | go_end0 | refine bodyPost_ret (results_none rfl _ _ _) rfl ?_
  exact ⟨rfl, rfl⟩
theorem dpid_back (b p3 p5 p4 t : Nat) (i k : Nat) (l l' : List UInt8) (A : Option Addr) (c : Nat) (w : World) (h : RdAt w b l' t) (ht : t ≠ 0) (h3 : w.cell? ⟨p3, 0, none⟩ = some (.pointer (some ⟨b, 0, none⟩))) (h5 : w.cell? ⟨p5, 0, none⟩ = some (.slice A l.length c))
    (hA : Bs w b A l.length l) (hc : l.length ≤ c) (hm : c ≤ maxLen) (h4 : Blk w p4 #[.int .u16 i, .int .u32 k] 44) (hb4 : b < p4) (hb5 : p4 ≠ p5) (hb3 : p4 ≠ p3) :
    CallsD Tryz.prog 204 #[.pointer (some ⟨p3, 0, none⟩), .pointer (some ⟨p5, 0, none⟩), .pointer (some ⟨p4, 0, none⟩)] .returning w fun e u' w' => u' = .returning ∧ (e = .returned (.tuple #[]) ∧ (RdAt w' b l t ∧ Blk w' p4 #[.int .u16 0, .int .u32 0] 44 ∧ Turn w w' b (some p4))) := by
  obtain ⟨A', c', h⟩ := h
  obtain ⟨f0, f1⟩ := h.cells
  have fz := h.frozen
  have hbl := h.lt
  have g0 := h4.cell 0
  have gz0 := h4.frozen 0
  have g1 := h4.cell 1
  have gz1 := h4.frozen 1
  have hp4 := h4.lt
  have hp3 := World.block_lt_of_cell? _ _ h3
  have hp5 := World.block_lt_of_cell? _ _ h5
  simp only at hp3 hp5
  simp only [List.getElem?_toArray, List.getElem?_cons_zero, List.getElem?_cons_succ] at g0 g1
  have t1 : ((t : Int) != 0) = true := by simp; omega
  have hz1 : RdAt (((w.setCell ⟨p4, 0, none⟩ (.int .u16 0)).setCell ⟨p4, 1, none⟩ (.int .u32 0)).setCell ⟨b, 0, none⟩ (.slice A l.length c)) b l t := (((h.other (p := ⟨p4, 0, none⟩) hb4 (.int .u16 0)).other (p := ⟨p4, 1, none⟩) hb4 (.int .u32 0)).set0 ((hA.setCell (p := ⟨p4, 0, none⟩) (Nat.le_of_lt hb4) (.int .u16 0)).setCell (p := ⟨p4, 1, none⟩) (Nat.le_of_lt hb4) (.int .u32 0)) hc hm).at_
  have hz2 : Blk (((w.setCell ⟨p4, 0, none⟩ (.int .u16 0)).setCell ⟨p4, 1, none⟩ (.int .u32 0)).setCell ⟨b, 0, none⟩ (.slice A l.length c)) p4 #[.int .u16 0, .int .u32 0] 44 := Blk.other ((h4.set_ 0 (.int .u16 0)).set_ 1 (.int .u32 0)) (q := ⟨b, 0, none⟩) (by show b ≠ p4; omega) _
  have hz3 : Turn w (((w.setCell ⟨p4, 0, none⟩ (.int .u16 0)).setCell ⟨p4, 1, none⟩ (.int .u32 0)).setCell ⟨b, 0, none⟩ (.slice A l.length c)) b (some p4) := Turn.set_ (((Turn.refl w b (some p4)).setOne 0 (.int .u16 0)).setOne 1 (.int .u32 0)) rfl _
  have hz1 := hz1.alloc (.cells #[.int .u16 0, .int .u32 0] 44)
  have hz2 : Blk ((((w.setCell ⟨p4, 0, none⟩ (.int .u16 0)).setCell ⟨p4, 1, none⟩ (.int .u32 0)).setCell ⟨b, 0, none⟩ (.slice A l.length c)).alloc (.cells #[.int .u16 0, .int .u32 0] 44)) p4 #[.int .u16 0, .int .u32 0] 44 := hz2.later ((Below.refl _ _).alloc (Nat.le_refl _) _)
  have hz3 := hz3.alloc (.cells #[.int .u16 0, .int .u32 0] 44)
  have HZ := Lib.hid (And.intro hz1 (And.intro hz2 hz3))
  clear hz1 hz2 hz3 h h4 ht hA
  generalize l.length = n9 at *
  go_enter_d Tryz.func204, Tryz.ntmps204
  go_wp2
  first | go_end0 | refine bodyPost_ret (results_none rfl _ _ _) rfl ?_
  exact ⟨rfl, HZ.out⟩
set_option maxRecDepth 100000 in
theorem pid_whole (b p : Nat) (l lr : List UInt8) (t : Nat) (G : Value → World → Prop) (w : World) (h : RdAt w b l 0) (hG : ∀ v W i x, w.heap.size < W.heap.size → G v W → G v (W.setCell ⟨w.heap.size + 1, i, none⟩ x))
    (cn : ∀ W, Below w.heap.size w W → w.heap.size + 2 ≤ W.heap.size → RdAt W b l 0 → Calls Tryz.prog 163 #[.pointer (some ⟨p, 0, none⟩)] W (CloP W b (fun v _ => ∃ (i k : Nat), v = .agg #[.int .u16 i, .int .u32 k]) G lr t)) :
    Calls Tryz.prog 162 #[.pointer (some ⟨b, 0, none⟩), .func (.func 163) #[] #[.pointer (some ⟨p, 0, none⟩)]] w (WholeG w b (.agg #[.int .u16 0, .int .u32 0]) G l lr t) := by
  have hmf : ∀ (fn : Fn) (first cap : Array Value) (w : World), (Instr.makeFunc fn first cap).run Tryz.prog w = .ok (.func fn first cap) w := fun _ _ _ _ => rfl
  obtain ⟨A, c, h0⟩ := id h
  have hbs := h0.2.1
  have hlc := h0.2.2.1
  have hcm := h0.2.2.2
  have hlt := h.lt
  have hb1 : Below w.heap.size w ((w.alloc (.cells #[.pointer (some ⟨b, 0, none⟩)] 91)).alloc (.cells #[.int .u16 0, .int .u32 0] 44)) := ((Below.refl _ _).alloc (Nat.le_refl _) _).alloc (by simp) _
  have ce := fun W (h : RdAt W b l 0) => err_any b l 0 W h
  obtain ⟨w1, hw1⟩ : ∃ w1, w1 = ((w.alloc (.cells #[.pointer (some ⟨b, 0, none⟩)] 91)).alloc (.cells #[.int .u16 0, .int .u32 0] 44)) := ⟨_, rfl⟩
  have hs1 : w1.heap.size = w.heap.size + 2 := by rw [hw1]; simp
  have b3 : Blk w1 w.heap.size #[.pointer (some ⟨b, 0, none⟩)] 91 := by
    rw [hw1]; exact (Below.heap_alloc _ _ _ (by simp)).trans (heap_alloc_new w _)
  have b4 : Blk w1 (w.heap.size + 1) #[.int .u16 0, .int .u32 0] 44 := by
    rw [hw1]
    have := heap_alloc_new (w.alloc (.cells #[.pointer (some ⟨b, 0, none⟩)] 91)) (.cells #[.int .u16 0, .int .u32 0] 44)
    simpa [Blk] using this
  rw [← hw1] at hb1
  have h1 := h.later hb1
  have h10 := h0.later hb1
  have HN := Lib.hid cn
  have HG := Lib.hid hG
  clear cn hG
  go_enter_defers Tryz.func162, Tryz.ntmps162
  go_wp2_with fail
  rw [← hw1]
  clear hw1 h h0
  refine (ce w1 h1).mono ?_
  rintro e w' ⟨rfl, rfl⟩
  clear ce
  obtain ⟨f0, f1⟩ := h10.cells
  have g3 := b3.cell 0
  simp only [List.getElem?_toArray, List.getElem?_cons_zero] at g3
  have hb2 : Below w1.heap.size w1 (w1.alloc (.cells #[.slice A l.length c] 39)) := (Below.refl _ _).alloc (Nat.le_refl _) _
  have b5 : Blk (w1.alloc (.cells #[.slice A l.length c] 39)) w1.heap.size #[.slice A l.length c] 39 := heap_alloc_new w1 _
  have hle : w.heap.size ≤ w1.heap.size := by omega
  have hH1 := hide hs1
  clear hs1
  go_wp2_with fail
  have h2 := h1.later hb2
  have k3 := b3.later hb2
  have k4 := b4.later hb2
  have hbz := hb1.trans (hb2.mono hle)
  generalize (w1.alloc (.cells #[.slice A l.length c] 39)) = w2 at b5 h2 k3 k4 hbz ⊢
  have hA2 := hbs.below (hbz.mono (Nat.le_of_lt hlt))
  have hw2 : w.heap.size + 2 ≤ w2.heap.size := by have := b5.lt; have := hH1.out; omega
  clear hb2 f0 f1 g3 h10 h1 b3 b4 hb1
  refine (HN.out w2 hbz hw2 h2).mono ?_
  rintro e w3 ⟨_, l', rfl, ⟨i, k, rfl⟩, h3, ht3, hl'⟩
  have n3 : w.heap.size ≠ b := by omega
  have n4 : w.heap.size + 1 ≠ b := by omega
  have n5 : w1.heap.size ≠ b := by omega
  have m3 := k3.turn ht3 n3 (by simp)
  have m4 := k4.turn ht3 n4 (by simp)
  have m5 := b5.turn ht3 n5 (by simp)
  have hA3 := hA2.keep (w' := w3) (fun p hp => World.cell?_of_block (ht3.block p.block (by have := hbz.size; omega) (by omega) (by simp)))
  have htz := Turn.ahead hbz ht3
  have hw3 := ht3.size
  clear h2 k3 k4 b5 ht3 hA2 HN
  have hH2 := hH1.out
  have hl4 : t = 0 → l' = lr ∧ G (.agg #[.int .u16 i, .int .u32 k]) ((w3.setCell ⟨w.heap.size + 1, 0, none⟩ (.int .u16 i)).setCell ⟨w.heap.size + 1, 1, none⟩ (.int .u32 k)) := fun e => by
    obtain ⟨e1, hg⟩ := hl' e
    have hG := HG.out
    exact ⟨e1, (hG _ _ 1 (.int .u32 k) (by first | omega | (simp; omega)) (hG _ _ 0 (.int .u16 i) (by first | omega | (simp; omega)) hg))⟩
  have x3 := ((m3.other (q := ⟨w.heap.size + 1, 0, none⟩) (by simp) (.int .u16 i)).other (q := ⟨w.heap.size + 1, 1, none⟩) (by simp) (.int .u32 k))
  have x4 := ((m4.set_ 0 (.int .u16 i)).set_ 1 (.int .u32 k))
  have x5 := ((m5.other (q := ⟨w.heap.size + 1, 0, none⟩) (by simp; omega) (.int .u16 i)).other (q := ⟨w.heap.size + 1, 1, none⟩) (by simp; omega) (.int .u32 k))
  have hx := ((h3.other (p := ⟨w.heap.size + 1, 0, none⟩) (by simp; omega) (.int .u16 i)).other (p := ⟨w.heap.size + 1, 1, none⟩) (by simp; omega) (.int .u32 k))
  have hAx := ((hA3.setCell (p := ⟨w.heap.size + 1, 0, none⟩) (by simp; omega) (.int .u16 i)).setCell (p := ⟨w.heap.size + 1, 1, none⟩) (by simp; omega) (.int .u32 k))
  have htx := ((htz.setNew (p := ⟨w.heap.size + 1, 0, none⟩) (by simp) (.int .u16 i)).setNew (p := ⟨w.heap.size + 1, 1, none⟩) (by simp) (.int .u32 k))
  have gc0 := m4.cell 0
  have gz0 := m4.frozen 0
  have gc1 := m4.cell 1
  have gz1 := m4.frozen 1
  simp only [List.getElem?_toArray, List.getElem?_cons_zero, List.getElem?_cons_succ] at gc0 gc1
  have n35 : w.heap.size + 1 ≠ w1.heap.size := by omega
  have hL := Lib.hid hl4
  clear hH2 hl' hl4 m3 m4 m5 hA3 htz h3 HG
  go_wp2
  generalize ((w3.setCell ⟨w.heap.size + 1, 0, none⟩ (.int .u16 i)).setCell ⟨w.heap.size + 1, 1, none⟩ (.int .u32 k)) = w4 at x3 x4 x5 hx hAx htx hL ⊢
  clear gc0 gz0 gc1 gz1
  have g3 := x3.cell 0
  have g5 := x5.cell 0
  simp only [List.getElem?_toArray, List.getElem?_cons_zero] at g3 g5
  refine leaves_cons (f := 204) (args := #[.pointer (some ⟨w.heap.size, 0, none⟩), .pointer (some ⟨w1.heap.size, 0, none⟩), .pointer (some ⟨w.heap.size + 1, 0, none⟩)]) (by simp) (by simp [go_sem]) ?_
  by_cases ht : t = 0
  · subst ht
    obtain ⟨rfl, hg⟩ := hL.out rfl
    refine (dpid_ok b _ _ _ l' w4 hx g3).mono ?_
    rintro e u' w'' ⟨rfl, rfl, rfl⟩
    have hr : WholeG w b (.agg #[.int .u16 0, .int .u32 0]) G l l' 0 (.returned (.agg #[.int .u16 i, .int .u32 k])) w4 := .inl ⟨rfl, _, rfl, hg, hx, htx⟩
    refine ⟨.agg #[.int .u16 i, .int .u32 k], ?_, hr⟩
    have c40 : w4.cell? ⟨w.heap.size + 1, 0, none⟩ = some (.int .u16 i) := x4.cell 0
    have c41 : w4.cell? ⟨w.heap.size + 1, 1, none⟩ = some (.int .u32 k) := x4.cell 1
    simp [results, Tryz.results162, go_sem, c40, c41]
  · refine (dpid_back b _ _ _ t i k l l' A c w4 hx ht g3 g5 hAx hlc hcm x4 (by omega) n35 (by omega)).mono ?_
    rintro e u' w5 ⟨rfl, rfl, h5, x6, ht5⟩
    have hr : WholeG w b (.agg #[.int .u16 0, .int .u32 0]) G l lr t (.returned (.agg #[.int .u16 0, .int .u32 0])) w5 := .inr ⟨ht, rfl, h5, htx.trans ht5 (.inr ⟨_, rfl, by omega⟩)⟩
    refine ⟨.agg #[.int .u16 0, .int .u32 0], ?_, hr⟩
    have c60 : w5.cell? ⟨w.heap.size + 1, 0, none⟩ = some (.int .u16 0) := x6.cell 0
    have c61 : w5.cell? ⟨w.heap.size + 1, 1, none⟩ = some (.int .u32 0) := x6.cell 1
    simp [results, Tryz.results162, go_sem, c60, c61]
set_option maxRecDepth 100000 in
theorem pid_stop (f : Value) (b t : Nat) (l : List UInt8) (w : World) (h : RdAt w b l t) (ht : t ≠ 0) :
    Calls Tryz.prog 162 #[.pointer (some ⟨b, 0, none⟩), f] w (ReadsP w b (.agg #[.int .u16 0, .int .u32 0]) l t) := by
  have hb1 : Below w.heap.size w ((w.alloc (.cells #[.pointer (some ⟨b, 0, none⟩)] 91)).alloc (.cells #[.int .u16 0, .int .u32 0] 44)) := ((Below.refl _ _).alloc (Nat.le_refl _) _).alloc (by simp) _
  have hbl := h.lt
  have ce := fun W (h : RdAt W b l t) => err_any b l t W h
  have t1 : ((t : Int) != 0) = true := by simp; omega
  have h1 := h.later hb1
  obtain ⟨w1, hw1⟩ : ∃ w1, w1 = ((w.alloc (.cells #[.pointer (some ⟨b, 0, none⟩)] 91)).alloc (.cells #[.int .u16 0, .int .u32 0] 44)) := ⟨_, rfl⟩
  have b4 : Blk w1 (w.heap.size + 1) #[.int .u16 0, .int .u32 0] 44 := by
    rw [hw1]
    have := heap_alloc_new (w.alloc (.cells #[.pointer (some ⟨b, 0, none⟩)] 91)) (.cells #[.int .u16 0, .int .u32 0] 44)
    simpa [Blk] using this
  rw [← hw1] at hb1 h1
  go_enter_defers Tryz.func162, Tryz.ntmps162
  go_wp2_with fail
  rw [← hw1]
  clear hw1 h ht
  refine (ce w1 h1).mono ?_
  rintro e w' ⟨rfl, rfl⟩
  clear ce
  have gc0 := b4.cell 0
  have gz0 := b4.frozen 0
  have gc1 := b4.cell 1
  have gz1 := b4.frozen 1
  simp only [List.getElem?_toArray, List.getElem?_cons_zero, List.getElem?_cons_succ] at gc0 gc1
  have x4 := ((b4.set_ 0 (.int .u16 0)).set_ 1 (.int .u32 0))
  have hbx := ((hb1.setCell (p := ⟨w.heap.size + 1, 0, none⟩) (by simp) (.int .u16 0)).setCell (p := ⟨w.heap.size + 1, 1, none⟩) (by simp) (.int .u32 0))
  have hlt := h1.lt
  have hbw : b < w.heap.size := hbl
  have hx := ((h1.other (p := ⟨w.heap.size + 1, 0, none⟩) (by simp; omega) (.int .u16 0)).other (p := ⟨w.heap.size + 1, 1, none⟩) (by simp; omega) (.int .u32 0))
  clear b4 hb1 h1
  go_wp2
  generalize ((w1.setCell ⟨w.heap.size + 1, 0, none⟩ (.int .u16 0)).setCell ⟨w.heap.size + 1, 1, none⟩ (.int .u32 0)) = w2 at x4 hbx hx ⊢
  have c40 : w2.cell? ⟨w.heap.size + 1, 0, none⟩ = some (.int .u16 0) := x4.cell 0
  have c41 : w2.cell? ⟨w.heap.size + 1, 1, none⟩ = some (.int .u32 0) := x4.cell 1
  refine ⟨.agg #[.int .u16 0, .int .u32 0], ?_, ?_⟩
  · simp [results, Tryz.results162, go_sem, c40, c41]
  · exact ⟨rfl, hx, Turn.of_below hbx b none⟩
theorem dballot_ok (b p3 p5 p4 : Nat) (l : List UInt8) (w : World) (h : RdAt w b l 0) (h3 : w.cell? ⟨p3, 0, none⟩ = some (.pointer (some ⟨b, 0, none⟩))) :
    CallsD Tryz.prog 206 #[.pointer (some ⟨p3, 0, none⟩), .pointer (some ⟨p5, 0, none⟩), .pointer (some ⟨p4, 0, none⟩)] .returning w fun e u' w' => u' = .returning ∧ (e = .returned (.tuple #[]) ∧ w = w') := by
  obtain ⟨A, c, h⟩ := h
  obtain ⟨f0, f1⟩ := h.cells
  clear h
  go_enter_d Tryz.func206, Tryz.ntmps206
  go_wp2
  first | go_end0 | refine bodyPost_ret (results_none rfl _ _ _) rfl ?_
  exact ⟨rfl, rfl⟩
theorem dballot_back (b p3 p5 p4 t : Nat) (r i k : Nat) (l l' : List UInt8) (A : Option Addr) (c : Nat) (w : World) (h : RdAt w b l' t) (ht : t ≠ 0) (h3 : w.cell? ⟨p3, 0, none⟩ = some (.pointer (some ⟨b, 0, none⟩))) (h5 : w.cell? ⟨p5, 0, none⟩ = some (.slice A l.length c))
    (hA : Bs w b A l.length l) (hc : l.length ≤ c) (hm : c ≤ maxLen) (h4 : Blk w p4 #[.int .u32 r, .int .u16 i, .int .u32 k] 46) (hb4 : b < p4) (hb5 : p4 ≠ p5) (hb3 : p4 ≠ p3) :
    CallsD Tryz.prog 206 #[.pointer (some ⟨p3, 0, none⟩), .pointer (some ⟨p5, 0, none⟩), .pointer (some ⟨p4, 0, none⟩)] .returning w fun e u' w' => u' = .returning ∧ (e = .returned (.tuple #[]) ∧ (RdAt w' b l t ∧ Blk w' p4 #[.int .u32 0, .int .u16 0, .int .u32 0] 46 ∧ Turn w w' b (some p4))) := by
  obtain ⟨A', c', h⟩ := h
  obtain ⟨f0, f1⟩ := h.cells
  have fz := h.frozen
  have hbl := h.lt
  have g0 := h4.cell 0
  have gz0 := h4.frozen 0
  have g1 := h4.cell 1
  have gz1 := h4.frozen 1
  have g2 := h4.cell 2
  have gz2 := h4.frozen 2
  have hp4 := h4.lt
  have hp3 := World.block_lt_of_cell? _ _ h3
  have hp5 := World.block_lt_of_cell? _ _ h5
  simp only at hp3 hp5
  simp only [List.getElem?_toArray, List.getElem?_cons_zero, List.getElem?_cons_succ] at g0 g1 g2
  have t1 : ((t : Int) != 0) = true := by simp; omega
  have hz1 : RdAt ((((w.setCell ⟨p4, 0, none⟩ (.int .u32 0)).setCell ⟨p4, 1, none⟩ (.int .u16 0)).setCell ⟨p4, 2, none⟩ (.int .u32 0)).setCell ⟨b, 0, none⟩ (.slice A l.length c)) b l t := ((((h.other (p := ⟨p4, 0, none⟩) hb4 (.int .u32 0)).other (p := ⟨p4, 1, none⟩) hb4 (.int .u16 0)).other (p := ⟨p4, 2, none⟩) hb4 (.int .u32 0)).set0 (((hA.setCell (p := ⟨p4, 0, none⟩) (Nat.le_of_lt hb4) (.int .u32 0)).setCell (p := ⟨p4, 1, none⟩) (Nat.le_of_lt hb4) (.int .u16 0)).setCell (p := ⟨p4, 2, none⟩) (Nat.le_of_lt hb4) (.int .u32 0)) hc hm).at_
  have hz2 : Blk ((((w.setCell ⟨p4, 0, none⟩ (.int .u32 0)).setCell ⟨p4, 1, none⟩ (.int .u16 0)).setCell ⟨p4, 2, none⟩ (.int .u32 0)).setCell ⟨b, 0, none⟩ (.slice A l.length c)) p4 #[.int .u32 0, .int .u16 0, .int .u32 0] 46 := Blk.other (((h4.set_ 0 (.int .u32 0)).set_ 1 (.int .u16 0)).set_ 2 (.int .u32 0)) (q := ⟨b, 0, none⟩) (by show b ≠ p4; omega) _
  have hz3 : Turn w ((((w.setCell ⟨p4, 0, none⟩ (.int .u32 0)).setCell ⟨p4, 1, none⟩ (.int .u16 0)).setCell ⟨p4, 2, none⟩ (.int .u32 0)).setCell ⟨b, 0, none⟩ (.slice A l.length c)) b (some p4) := Turn.set_ ((((Turn.refl w b (some p4)).setOne 0 (.int .u32 0)).setOne 1 (.int .u16 0)).setOne 2 (.int .u32 0)) rfl _
  have hz1 := hz1.alloc (.cells #[.int .u32 0, .int .u16 0, .int .u32 0] 46)
  have hz2 : Blk (((((w.setCell ⟨p4, 0, none⟩ (.int .u32 0)).setCell ⟨p4, 1, none⟩ (.int .u16 0)).setCell ⟨p4, 2, none⟩ (.int .u32 0)).setCell ⟨b, 0, none⟩ (.slice A l.length c)).alloc (.cells #[.int .u32 0, .int .u16 0, .int .u32 0] 46)) p4 #[.int .u32 0, .int .u16 0, .int .u32 0] 46 := hz2.later ((Below.refl _ _).alloc (Nat.le_refl _) _)
  have hz3 := hz3.alloc (.cells #[.int .u32 0, .int .u16 0, .int .u32 0] 46)
  have HZ := Lib.hid (And.intro hz1 (And.intro hz2 hz3))
  clear hz1 hz2 hz3 h h4 ht hA
  generalize l.length = n9 at *
  go_enter_d Tryz.func206, Tryz.ntmps206
  go_wp2
  first | go_end0 | refine bodyPost_ret (results_none rfl _ _ _) rfl ?_
  exact ⟨rfl, HZ.out⟩
set_option maxRecDepth 100000 in
theorem ballot_whole (b p : Nat) (l lr : List UInt8) (t : Nat) (G : Value → World → Prop) (w : World) (h : RdAt w b l 0) (hG : ∀ v W i x, w.heap.size < W.heap.size → G v W → G v (W.setCell ⟨w.heap.size + 1, i, none⟩ x))
    (cn : ∀ W, Below w.heap.size w W → w.heap.size + 2 ≤ W.heap.size → RdAt W b l 0 → Calls Tryz.prog 166 #[.pointer (some ⟨p, 0, none⟩)] W (CloP W b (fun v _ => ∃ (r i k : Nat), v = .agg #[.int .u32 r, .int .u16 i, .int .u32 k]) G lr t)) :
    Calls Tryz.prog 165 #[.pointer (some ⟨b, 0, none⟩), .func (.func 166) #[] #[.pointer (some ⟨p, 0, none⟩)]] w (WholeG w b (.agg #[.int .u32 0, .int .u16 0, .int .u32 0]) G l lr t) := by
  have hmf : ∀ (fn : Fn) (first cap : Array Value) (w : World), (Instr.makeFunc fn first cap).run Tryz.prog w = .ok (.func fn first cap) w := fun _ _ _ _ => rfl
  obtain ⟨A, c, h0⟩ := id h
  have hbs := h0.2.1
  have hlc := h0.2.2.1
  have hcm := h0.2.2.2
  have hlt := h.lt
  have hb1 : Below w.heap.size w ((w.alloc (.cells #[.pointer (some ⟨b, 0, none⟩)] 91)).alloc (.cells #[.int .u32 0, .int .u16 0, .int .u32 0] 46)) := ((Below.refl _ _).alloc (Nat.le_refl _) _).alloc (by simp) _
  have ce := fun W (h : RdAt W b l 0) => err_any b l 0 W h
  obtain ⟨w1, hw1⟩ : ∃ w1, w1 = ((w.alloc (.cells #[.pointer (some ⟨b, 0, none⟩)] 91)).alloc (.cells #[.int .u32 0, .int .u16 0, .int .u32 0] 46)) := ⟨_, rfl⟩
  have hs1 : w1.heap.size = w.heap.size + 2 := by rw [hw1]; simp
  have b3 : Blk w1 w.heap.size #[.pointer (some ⟨b, 0, none⟩)] 91 := by
    rw [hw1]; exact (Below.heap_alloc _ _ _ (by simp)).trans (heap_alloc_new w _)
  have b4 : Blk w1 (w.heap.size + 1) #[.int .u32 0, .int .u16 0, .int .u32 0] 46 := by
    rw [hw1]
    have := heap_alloc_new (w.alloc (.cells #[.pointer (some ⟨b, 0, none⟩)] 91)) (.cells #[.int .u32 0, .int .u16 0, .int .u32 0] 46)
    simpa [Blk] using this
  rw [← hw1] at hb1
  have h1 := h.later hb1
  have h10 := h0.later hb1
  have HN := Lib.hid cn
  have HG := Lib.hid hG
  clear cn hG
  go_enter_defers Tryz.func165, Tryz.ntmps165
  go_wp2_with fail
  rw [← hw1]
  clear hw1 h h0
  refine (ce w1 h1).mono ?_
  rintro e w' ⟨rfl, rfl⟩
  clear ce
  obtain ⟨f0, f1⟩ := h10.cells
  have g3 := b3.cell 0
  simp only [List.getElem?_toArray, List.getElem?_cons_zero] at g3
  have hb2 : Below w1.heap.size w1 (w1.alloc (.cells #[.slice A l.length c] 39)) := (Below.refl _ _).alloc (Nat.le_refl _) _
  have b5 : Blk (w1.alloc (.cells #[.slice A l.length c] 39)) w1.heap.size #[.slice A l.length c] 39 := heap_alloc_new w1 _
  have hle : w.heap.size ≤ w1.heap.size := by omega
  have hH1 := hide hs1
  clear hs1
  go_wp2_with fail
  have h2 := h1.later hb2
  have k3 := b3.later hb2
  have k4 := b4.later hb2
  have hbz := hb1.trans (hb2.mono hle)
  generalize (w1.alloc (.cells #[.slice A l.length c] 39)) = w2 at b5 h2 k3 k4 hbz ⊢
  have hA2 := hbs.below (hbz.mono (Nat.le_of_lt hlt))
  have hw2 : w.heap.size + 2 ≤ w2.heap.size := by have := b5.lt; have := hH1.out; omega
  clear hb2 f0 f1 g3 h10 h1 b3 b4 hb1
  refine (HN.out w2 hbz hw2 h2).mono ?_
  rintro e w3 ⟨_, l', rfl, ⟨r, i, k, rfl⟩, h3, ht3, hl'⟩
  have n3 : w.heap.size ≠ b := by omega
  have n4 : w.heap.size + 1 ≠ b := by omega
  have n5 : w1.heap.size ≠ b := by omega
  have m3 := k3.turn ht3 n3 (by simp)
  have m4 := k4.turn ht3 n4 (by simp)
  have m5 := b5.turn ht3 n5 (by simp)
  have hA3 := hA2.keep (w' := w3) (fun p hp => World.cell?_of_block (ht3.block p.block (by have := hbz.size; omega) (by omega) (by simp)))
  have htz := Turn.ahead hbz ht3
  have hw3 := ht3.size
  clear h2 k3 k4 b5 ht3 hA2 HN
  have hH2 := hH1.out
  have hl4 : t = 0 → l' = lr ∧ G (.agg #[.int .u32 r, .int .u16 i, .int .u32 k]) (((w3.setCell ⟨w.heap.size + 1, 0, none⟩ (.int .u32 r)).setCell ⟨w.heap.size + 1, 1, none⟩ (.int .u16 i)).setCell ⟨w.heap.size + 1, 2, none⟩ (.int .u32 k)) := fun e => by
    obtain ⟨e1, hg⟩ := hl' e
    have hG := HG.out
    exact ⟨e1, (hG _ _ 2 (.int .u32 k) (by first | omega | (simp; omega)) (hG _ _ 1 (.int .u16 i) (by first | omega | (simp; omega)) (hG _ _ 0 (.int .u32 r) (by first | omega | (simp; omega)) hg)))⟩
  have x3 := (((m3.other (q := ⟨w.heap.size + 1, 0, none⟩) (by simp) (.int .u32 r)).other (q := ⟨w.heap.size + 1, 1, none⟩) (by simp) (.int .u16 i)).other (q := ⟨w.heap.size + 1, 2, none⟩) (by simp) (.int .u32 k))
  have x4 := (((m4.set_ 0 (.int .u32 r)).set_ 1 (.int .u16 i)).set_ 2 (.int .u32 k))
  have x5 := (((m5.other (q := ⟨w.heap.size + 1, 0, none⟩) (by simp; omega) (.int .u32 r)).other (q := ⟨w.heap.size + 1, 1, none⟩) (by simp; omega) (.int .u16 i)).other (q := ⟨w.heap.size + 1, 2, none⟩) (by simp; omega) (.int .u32 k))
  have hx := (((h3.other (p := ⟨w.heap.size + 1, 0, none⟩) (by simp; omega) (.int .u32 r)).other (p := ⟨w.heap.size + 1, 1, none⟩) (by simp; omega) (.int .u16 i)).other (p := ⟨w.heap.size + 1, 2, none⟩) (by simp; omega) (.int .u32 k))
  have hAx := (((hA3.setCell (p := ⟨w.heap.size + 1, 0, none⟩) (by simp; omega) (.int .u32 r)).setCell (p := ⟨w.heap.size + 1, 1, none⟩) (by simp; omega) (.int .u16 i)).setCell (p := ⟨w.heap.size + 1, 2, none⟩) (by simp; omega) (.int .u32 k))
  have htx := (((htz.setNew (p := ⟨w.heap.size + 1, 0, none⟩) (by simp) (.int .u32 r)).setNew (p := ⟨w.heap.size + 1, 1, none⟩) (by simp) (.int .u16 i)).setNew (p := ⟨w.heap.size + 1, 2, none⟩) (by simp) (.int .u32 k))
  have gc0 := m4.cell 0
  have gz0 := m4.frozen 0
  have gc1 := m4.cell 1
  have gz1 := m4.frozen 1
  have gc2 := m4.cell 2
  have gz2 := m4.frozen 2
  simp only [List.getElem?_toArray, List.getElem?_cons_zero, List.getElem?_cons_succ] at gc0 gc1 gc2
  have n35 : w.heap.size + 1 ≠ w1.heap.size := by omega
  have hL := Lib.hid hl4
  clear hH2 hl' hl4 m3 m4 m5 hA3 htz h3 HG
  go_wp2
  generalize (((w3.setCell ⟨w.heap.size + 1, 0, none⟩ (.int .u32 r)).setCell ⟨w.heap.size + 1, 1, none⟩ (.int .u16 i)).setCell ⟨w.heap.size + 1, 2, none⟩ (.int .u32 k)) = w4 at x3 x4 x5 hx hAx htx hL ⊢
  clear gc0 gz0 gc1 gz1 gc2 gz2
  have g3 := x3.cell 0
  have g5 := x5.cell 0
  simp only [List.getElem?_toArray, List.getElem?_cons_zero] at g3 g5
  refine leaves_cons (f := 206) (args := #[.pointer (some ⟨w.heap.size, 0, none⟩), .pointer (some ⟨w1.heap.size, 0, none⟩), .pointer (some ⟨w.heap.size + 1, 0, none⟩)]) (by simp) (by simp [go_sem]) ?_
  by_cases ht : t = 0
  · subst ht
    obtain ⟨rfl, hg⟩ := hL.out rfl
    refine (dballot_ok b _ _ _ l' w4 hx g3).mono ?_
    rintro e u' w'' ⟨rfl, rfl, rfl⟩
    have hr : WholeG w b (.agg #[.int .u32 0, .int .u16 0, .int .u32 0]) G l l' 0 (.returned (.agg #[.int .u32 r, .int .u16 i, .int .u32 k])) w4 := .inl ⟨rfl, _, rfl, hg, hx, htx⟩
    refine ⟨.agg #[.int .u32 r, .int .u16 i, .int .u32 k], ?_, hr⟩
    have c40 : w4.cell? ⟨w.heap.size + 1, 0, none⟩ = some (.int .u32 r) := x4.cell 0
    have c41 : w4.cell? ⟨w.heap.size + 1, 1, none⟩ = some (.int .u16 i) := x4.cell 1
    have c42 : w4.cell? ⟨w.heap.size + 1, 2, none⟩ = some (.int .u32 k) := x4.cell 2
    simp [results, Tryz.results165, go_sem, c40, c41, c42]
  · refine (dballot_back b _ _ _ t r i k l l' A c w4 hx ht g3 g5 hAx hlc hcm x4 (by omega) n35 (by omega)).mono ?_
    rintro e u' w5 ⟨rfl, rfl, h5, x6, ht5⟩
    have hr : WholeG w b (.agg #[.int .u32 0, .int .u16 0, .int .u32 0]) G l lr t (.returned (.agg #[.int .u32 0, .int .u16 0, .int .u32 0])) w5 := .inr ⟨ht, rfl, h5, htx.trans ht5 (.inr ⟨_, rfl, by omega⟩)⟩
    refine ⟨.agg #[.int .u32 0, .int .u16 0, .int .u32 0], ?_, hr⟩
    have c60 : w5.cell? ⟨w.heap.size + 1, 0, none⟩ = some (.int .u32 0) := x6.cell 0
    have c61 : w5.cell? ⟨w.heap.size + 1, 1, none⟩ = some (.int .u16 0) := x6.cell 1
    have c62 : w5.cell? ⟨w.heap.size + 1, 2, none⟩ = some (.int .u32 0) := x6.cell 2
    simp [results, Tryz.results165, go_sem, c60, c61, c62]
set_option maxRecDepth 100000 in
theorem ballot_stop (f : Value) (b t : Nat) (l : List UInt8) (w : World) (h : RdAt w b l t) (ht : t ≠ 0) :
    Calls Tryz.prog 165 #[.pointer (some ⟨b, 0, none⟩), f] w (ReadsP w b (.agg #[.int .u32 0, .int .u16 0, .int .u32 0]) l t) := by
  have hb1 : Below w.heap.size w ((w.alloc (.cells #[.pointer (some ⟨b, 0, none⟩)] 91)).alloc (.cells #[.int .u32 0, .int .u16 0, .int .u32 0] 46)) := ((Below.refl _ _).alloc (Nat.le_refl _) _).alloc (by simp) _
  have hbl := h.lt
  have ce := fun W (h : RdAt W b l t) => err_any b l t W h
  have t1 : ((t : Int) != 0) = true := by simp; omega
  have h1 := h.later hb1
  obtain ⟨w1, hw1⟩ : ∃ w1, w1 = ((w.alloc (.cells #[.pointer (some ⟨b, 0, none⟩)] 91)).alloc (.cells #[.int .u32 0, .int .u16 0, .int .u32 0] 46)) := ⟨_, rfl⟩
  have b4 : Blk w1 (w.heap.size + 1) #[.int .u32 0, .int .u16 0, .int .u32 0] 46 := by
    rw [hw1]
    have := heap_alloc_new (w.alloc (.cells #[.pointer (some ⟨b, 0, none⟩)] 91)) (.cells #[.int .u32 0, .int .u16 0, .int .u32 0] 46)
    simpa [Blk] using this
  rw [← hw1] at hb1 h1
  go_enter_defers Tryz.func165, Tryz.ntmps165
  go_wp2_with fail
  rw [← hw1]
  clear hw1 h ht
  refine (ce w1 h1).mono ?_
  rintro e w' ⟨rfl, rfl⟩
  clear ce
  have gc0 := b4.cell 0
  have gz0 := b4.frozen 0
  have gc1 := b4.cell 1
  have gz1 := b4.frozen 1
  have gc2 := b4.cell 2
  have gz2 := b4.frozen 2
  simp only [List.getElem?_toArray, List.getElem?_cons_zero, List.getElem?_cons_succ] at gc0 gc1 gc2
  have x4 := (((b4.set_ 0 (.int .u32 0)).set_ 1 (.int .u16 0)).set_ 2 (.int .u32 0))
  have hbx := (((hb1.setCell (p := ⟨w.heap.size + 1, 0, none⟩) (by simp) (.int .u32 0)).setCell (p := ⟨w.heap.size + 1, 1, none⟩) (by simp) (.int .u16 0)).setCell (p := ⟨w.heap.size + 1, 2, none⟩) (by simp) (.int .u32 0))
  have hlt := h1.lt
  have hbw : b < w.heap.size := hbl
  have hx := (((h1.other (p := ⟨w.heap.size + 1, 0, none⟩) (by simp; omega) (.int .u32 0)).other (p := ⟨w.heap.size + 1, 1, none⟩) (by simp; omega) (.int .u16 0)).other (p := ⟨w.heap.size + 1, 2, none⟩) (by simp; omega) (.int .u32 0))
  clear b4 hb1 h1
  go_wp2
  generalize (((w1.setCell ⟨w.heap.size + 1, 0, none⟩ (.int .u32 0)).setCell ⟨w.heap.size + 1, 1, none⟩ (.int .u16 0)).setCell ⟨w.heap.size + 1, 2, none⟩ (.int .u32 0)) = w2 at x4 hbx hx ⊢
  have c40 : w2.cell? ⟨w.heap.size + 1, 0, none⟩ = some (.int .u32 0) := x4.cell 0
  have c41 : w2.cell? ⟨w.heap.size + 1, 1, none⟩ = some (.int .u16 0) := x4.cell 1
  have c42 : w2.cell? ⟨w.heap.size + 1, 2, none⟩ = some (.int .u32 0) := x4.cell 2
  refine ⟨.agg #[.int .u32 0, .int .u16 0, .int .u32 0], ?_, ?_⟩
  · simp [results, Tryz.results165, go_sem, c40, c41, c42]
  · exact ⟨rfl, hx, Turn.of_below hbx b none⟩
theorem dbytes_ok (b p3 p5 p4 : Nat) (l : List UInt8) (w : World) (h : RdAt w b l 0) (h3 : w.cell? ⟨p3, 0, none⟩ = some (.pointer (some ⟨b, 0, none⟩))) :
    CallsD Tryz.prog 211 #[.pointer (some ⟨p3, 0, none⟩), .pointer (some ⟨p5, 0, none⟩), .pointer (some ⟨p4, 0, none⟩)] .returning w fun e u' w' => u' = .returning ∧ (e = .returned (.tuple #[]) ∧ w = w') := by
  obtain ⟨A, c, h⟩ := h
  obtain ⟨f0, f1⟩ := h.cells
  clear h
  go_enter_d Tryz.func211, Tryz.ntmps211
  go_wp2
  first | go_end0 | refine bodyPost_ret (results_none rfl _ _ _) rfl ?_
  exact ⟨rfl, rfl⟩
theorem dbytes_back (b p3 p5 p4 t : Nat) (V : Option Addr) (m d : Nat) (l l' : List UInt8) (A : Option Addr) (c : Nat) (w : World) (h : RdAt w b l' t) (ht : t ≠ 0) (h3 : w.cell? ⟨p3, 0, none⟩ = some (.pointer (some ⟨b, 0, none⟩))) (h5 : w.cell? ⟨p5, 0, none⟩ = some (.slice A l.length c))
    (hA : Bs w b A l.length l) (hc : l.length ≤ c) (hm : c ≤ maxLen) (h4 : Blk w p4 #[.slice V m d] 39) (hb4 : b < p4) (hb5 : p4 ≠ p5) (hb3 : p4 ≠ p3) :
    CallsD Tryz.prog 211 #[.pointer (some ⟨p3, 0, none⟩), .pointer (some ⟨p5, 0, none⟩), .pointer (some ⟨p4, 0, none⟩)] .returning w fun e u' w' => u' = .returning ∧ (e = .returned (.tuple #[]) ∧ (RdAt w' b l t ∧ Blk w' p4 #[.slice none 0 0] 39 ∧ Turn w w' b (some p4))) := by
  obtain ⟨A', c', h⟩ := h
  obtain ⟨f0, f1⟩ := h.cells
  have fz := h.frozen
  have hbl := h.lt
  have g0 := h4.cell 0
  have gz0 := h4.frozen 0
  have hp4 := h4.lt
  have hp3 := World.block_lt_of_cell? _ _ h3
  have hp5 := World.block_lt_of_cell? _ _ h5
  simp only at hp3 hp5
  simp only [List.getElem?_toArray, List.getElem?_cons_zero] at g0
  have t1 : ((t : Int) != 0) = true := by simp; omega
  have hz1 : RdAt ((w.setCell ⟨p4, 0, none⟩ (.slice none 0 0)).setCell ⟨b, 0, none⟩ (.slice A l.length c)) b l t := ((h.other (p := ⟨p4, 0, none⟩) hb4 (.slice none 0 0)).set0 (hA.setCell (p := ⟨p4, 0, none⟩) (Nat.le_of_lt hb4) (.slice none 0 0)) hc hm).at_
  have hz2 : Blk ((w.setCell ⟨p4, 0, none⟩ (.slice none 0 0)).setCell ⟨b, 0, none⟩ (.slice A l.length c)) p4 #[.slice none 0 0] 39 := Blk.other (h4.set_ 0 (.slice none 0 0)) (q := ⟨b, 0, none⟩) (by show b ≠ p4; omega) _
  have hz3 : Turn w ((w.setCell ⟨p4, 0, none⟩ (.slice none 0 0)).setCell ⟨b, 0, none⟩ (.slice A l.length c)) b (some p4) := Turn.set_ ((Turn.refl w b (some p4)).setOne 0 (.slice none 0 0)) rfl _
  have HZ := Lib.hid (And.intro hz1 (And.intro hz2 hz3))
  clear hz1 hz2 hz3 h h4 ht hA
  generalize l.length = n9 at *
  go_enter_d Tryz.func211, Tryz.ntmps211
  go_wp2
  first | go_end0 | refine bodyPost_ret (results_none rfl _ _ _) rfl ?_
  exact ⟨rfl, HZ.out⟩
set_option maxRecDepth 100000 in
theorem bytes_whole (b p q : Nat) (l lr : List UInt8) (t : Nat) (G : Value → World → Prop) (w : World) (h : RdAt w b l 0) (hG : ∀ v W i x, w.heap.size < W.heap.size → G v W → G v (W.setCell ⟨w.heap.size + 1, i, none⟩ x))
    (cn : ∀ W, Below w.heap.size w W → w.heap.size + 2 ≤ W.heap.size → RdAt W b l 0 → Calls Tryz.prog 173 #[.pointer (some ⟨p, 0, none⟩), .pointer (some ⟨q, 0, none⟩)] W (CloP W b (fun v _ => ∃ (V : Option Addr) (m d : Nat), v = .slice V m d) G lr t)) :
    Calls Tryz.prog 172 #[.pointer (some ⟨b, 0, none⟩), .func (.func 173) #[] #[.pointer (some ⟨p, 0, none⟩), .pointer (some ⟨q, 0, none⟩)]] w (WholeG w b (.slice none 0 0) G l lr t) := by
  have hmf : ∀ (fn : Fn) (first cap : Array Value) (w : World), (Instr.makeFunc fn first cap).run Tryz.prog w = .ok (.func fn first cap) w := fun _ _ _ _ => rfl
  obtain ⟨A, c, h0⟩ := id h
  have hbs := h0.2.1
  have hlc := h0.2.2.1
  have hcm := h0.2.2.2
  have hlt := h.lt
  have hb1 : Below w.heap.size w ((w.alloc (.cells #[.pointer (some ⟨b, 0, none⟩)] 91)).alloc (.cells #[.slice none 0 0] 39)) := ((Below.refl _ _).alloc (Nat.le_refl _) _).alloc (by simp) _
  have ce := fun W (h : RdAt W b l 0) => err_any b l 0 W h
  obtain ⟨w1, hw1⟩ : ∃ w1, w1 = ((w.alloc (.cells #[.pointer (some ⟨b, 0, none⟩)] 91)).alloc (.cells #[.slice none 0 0] 39)) := ⟨_, rfl⟩
  have hs1 : w1.heap.size = w.heap.size + 2 := by rw [hw1]; simp
  have b3 : Blk w1 w.heap.size #[.pointer (some ⟨b, 0, none⟩)] 91 := by
    rw [hw1]; exact (Below.heap_alloc _ _ _ (by simp)).trans (heap_alloc_new w _)
  have b4 : Blk w1 (w.heap.size + 1) #[.slice none 0 0] 39 := by
    rw [hw1]
    have := heap_alloc_new (w.alloc (.cells #[.pointer (some ⟨b, 0, none⟩)] 91)) (.cells #[.slice none 0 0] 39)
    simpa [Blk] using this
  rw [← hw1] at hb1
  have h1 := h.later hb1
  have h10 := h0.later hb1
  have HN := Lib.hid cn
  have HG := Lib.hid hG
  clear cn hG
  go_enter_defers Tryz.func172, Tryz.ntmps172
  go_wp2_with fail
  rw [← hw1]
  clear hw1 h h0
  refine (ce w1 h1).mono ?_
  rintro e w' ⟨rfl, rfl⟩
  clear ce
  obtain ⟨f0, f1⟩ := h10.cells
  have g3 := b3.cell 0
  simp only [List.getElem?_toArray, List.getElem?_cons_zero] at g3
  have hb2 : Below w1.heap.size w1 (w1.alloc (.cells #[.slice A l.length c] 39)) := (Below.refl _ _).alloc (Nat.le_refl _) _
  have b5 : Blk (w1.alloc (.cells #[.slice A l.length c] 39)) w1.heap.size #[.slice A l.length c] 39 := heap_alloc_new w1 _
  have hle : w.heap.size ≤ w1.heap.size := by omega
  have hH1 := hide hs1
  clear hs1
  go_wp2_with fail
  have h2 := h1.later hb2
  have k3 := b3.later hb2
  have k4 := b4.later hb2
  have hbz := hb1.trans (hb2.mono hle)
  generalize (w1.alloc (.cells #[.slice A l.length c] 39)) = w2 at b5 h2 k3 k4 hbz ⊢
  have hA2 := hbs.below (hbz.mono (Nat.le_of_lt hlt))
  have hw2 : w.heap.size + 2 ≤ w2.heap.size := by have := b5.lt; have := hH1.out; omega
  clear hb2 f0 f1 g3 h10 h1 b3 b4 hb1
  refine (HN.out w2 hbz hw2 h2).mono ?_
  rintro e w3 ⟨_, l', rfl, ⟨V, m, d, rfl⟩, h3, ht3, hl'⟩
  have n3 : w.heap.size ≠ b := by omega
  have n4 : w.heap.size + 1 ≠ b := by omega
  have n5 : w1.heap.size ≠ b := by omega
  have m3 := k3.turn ht3 n3 (by simp)
  have m4 := k4.turn ht3 n4 (by simp)
  have m5 := b5.turn ht3 n5 (by simp)
  have hA3 := hA2.keep (w' := w3) (fun p hp => World.cell?_of_block (ht3.block p.block (by have := hbz.size; omega) (by omega) (by simp)))
  have htz := Turn.ahead hbz ht3
  have hw3 := ht3.size
  clear h2 k3 k4 b5 ht3 hA2 HN
  have hH2 := hH1.out
  have hl4 : t = 0 → l' = lr ∧ G (.slice V m d) (w3.setCell ⟨w.heap.size + 1, 0, none⟩ (.slice V m d)) := fun e => by
    obtain ⟨e1, hg⟩ := hl' e
    have hG := HG.out
    exact ⟨e1, (hG _ _ 0 (.slice V m d) (by first | omega | (simp; omega)) hg)⟩
  have x3 := (m3.other (q := ⟨w.heap.size + 1, 0, none⟩) (by simp) (.slice V m d))
  have x4 := (m4.set_ 0 (.slice V m d))
  have x5 := (m5.other (q := ⟨w.heap.size + 1, 0, none⟩) (by simp; omega) (.slice V m d))
  have hx := (h3.other (p := ⟨w.heap.size + 1, 0, none⟩) (by simp; omega) (.slice V m d))
  have hAx := (hA3.setCell (p := ⟨w.heap.size + 1, 0, none⟩) (by simp; omega) (.slice V m d))
  have htx := (htz.setNew (p := ⟨w.heap.size + 1, 0, none⟩) (by simp) (.slice V m d))
  have gc0 := m4.cell 0
  have gz0 := m4.frozen 0
  simp only [List.getElem?_toArray, List.getElem?_cons_zero] at gc0
  have n35 : w.heap.size + 1 ≠ w1.heap.size := by omega
  have hL := Lib.hid hl4
  clear hH2 hl' hl4 m3 m4 m5 hA3 htz h3 HG
  go_wp2
  generalize (w3.setCell ⟨w.heap.size + 1, 0, none⟩ (.slice V m d)) = w4 at x3 x4 x5 hx hAx htx hL ⊢
  clear gc0 gz0
  have g3 := x3.cell 0
  have g5 := x5.cell 0
  simp only [List.getElem?_toArray, List.getElem?_cons_zero] at g3 g5
  refine leaves_cons (f := 211) (args := #[.pointer (some ⟨w.heap.size, 0, none⟩), .pointer (some ⟨w1.heap.size, 0, none⟩), .pointer (some ⟨w.heap.size + 1, 0, none⟩)]) (by simp) (by simp [go_sem]) ?_
  by_cases ht : t = 0
  · subst ht
    obtain ⟨rfl, hg⟩ := hL.out rfl
    refine (dbytes_ok b _ _ _ l' w4 hx g3).mono ?_
    rintro e u' w'' ⟨rfl, rfl, rfl⟩
    have hr : WholeG w b (.slice none 0 0) G l l' 0 (.returned (.slice V m d)) w4 := .inl ⟨rfl, _, rfl, hg, hx, htx⟩
    refine ⟨.slice V m d, ?_, hr⟩
    have c40 : w4.cell? ⟨w.heap.size + 1, 0, none⟩ = some (.slice V m d) := x4.cell 0
    simp [results, Tryz.results172, go_sem, c40]
  · refine (dbytes_back b _ _ _ t V m d l l' A c w4 hx ht g3 g5 hAx hlc hcm x4 (by omega) n35 (by omega)).mono ?_
    rintro e u' w5 ⟨rfl, rfl, h5, x6, ht5⟩
    have hr : WholeG w b (.slice none 0 0) G l lr t (.returned (.slice none 0 0)) w5 := .inr ⟨ht, rfl, h5, htx.trans ht5 (.inr ⟨_, rfl, by omega⟩)⟩
    refine ⟨.slice none 0 0, ?_, hr⟩
    have c60 : w5.cell? ⟨w.heap.size + 1, 0, none⟩ = some (.slice none 0 0) := x6.cell 0
    simp [results, Tryz.results172, go_sem, c60]
set_option maxRecDepth 100000 in
theorem bytes_stop (f : Value) (b t : Nat) (l : List UInt8) (w : World) (h : RdAt w b l t) (ht : t ≠ 0) :
    Calls Tryz.prog 172 #[.pointer (some ⟨b, 0, none⟩), f] w (ReadsP w b (.slice none 0 0) l t) := by
  have hb1 : Below w.heap.size w ((w.alloc (.cells #[.pointer (some ⟨b, 0, none⟩)] 91)).alloc (.cells #[.slice none 0 0] 39)) := ((Below.refl _ _).alloc (Nat.le_refl _) _).alloc (by simp) _
  have hbl := h.lt
  have ce := fun W (h : RdAt W b l t) => err_any b l t W h
  have t1 : ((t : Int) != 0) = true := by simp; omega
  have h1 := h.later hb1
  obtain ⟨w1, hw1⟩ : ∃ w1, w1 = ((w.alloc (.cells #[.pointer (some ⟨b, 0, none⟩)] 91)).alloc (.cells #[.slice none 0 0] 39)) := ⟨_, rfl⟩
  have b4 : Blk w1 (w.heap.size + 1) #[.slice none 0 0] 39 := by
    rw [hw1]
    have := heap_alloc_new (w.alloc (.cells #[.pointer (some ⟨b, 0, none⟩)] 91)) (.cells #[.slice none 0 0] 39)
    simpa [Blk] using this
  rw [← hw1] at hb1 h1
  go_enter_defers Tryz.func172, Tryz.ntmps172
  go_wp2_with fail
  rw [← hw1]
  clear hw1 h ht
  refine (ce w1 h1).mono ?_
  rintro e w' ⟨rfl, rfl⟩
  clear ce
  have gc0 := b4.cell 0
  have gz0 := b4.frozen 0
  simp only [List.getElem?_toArray, List.getElem?_cons_zero] at gc0
  have x4 := (b4.set_ 0 (.slice none 0 0))
  have hbx := (hb1.setCell (p := ⟨w.heap.size + 1, 0, none⟩) (by simp) (.slice none 0 0))
  have hlt := h1.lt
  have hbw : b < w.heap.size := hbl
  have hx := (h1.other (p := ⟨w.heap.size + 1, 0, none⟩) (by simp; omega) (.slice none 0 0))
  clear b4 hb1 h1
  go_wp2
  generalize (w1.setCell ⟨w.heap.size + 1, 0, none⟩ (.slice none 0 0)) = w2 at x4 hbx hx ⊢
  have c40 : w2.cell? ⟨w.heap.size + 1, 0, none⟩ = some (.slice none 0 0) := x4.cell 0
  refine ⟨.slice none 0 0, ?_, ?_⟩
  · simp [results, Tryz.results172, go_sem, c40]
  · exact ⟨rfl, hx, Turn.of_below hbx b none⟩
theorem dpids_ok (b p3 p5 p4 : Nat) (l : List UInt8) (w : World) (h : RdAt w b l 0) (h3 : w.cell? ⟨p3, 0, none⟩ = some (.pointer (some ⟨b, 0, none⟩))) :
    CallsD Tryz.prog 225 #[.pointer (some ⟨p3, 0, none⟩), .pointer (some ⟨p5, 0, none⟩), .pointer (some ⟨p4, 0, none⟩)] .returning w fun e u' w' => u' = .returning ∧ (e = .returned (.tuple #[]) ∧ w = w') := by
  obtain ⟨A, c, h⟩ := h
  obtain ⟨f0, f1⟩ := h.cells
  clear h
  go_enter_d Tryz.func225, Tryz.ntmps225
  go_wp2
  first | go_end0 | refine bodyPost_ret (results_none rfl _ _ _) rfl ?_
  exact ⟨rfl, rfl⟩
theorem dpids_back (b p3 p5 p4 t : Nat) (V : Option Addr) (m d : Nat) (l l' : List UInt8) (A : Option Addr) (c : Nat) (w : World) (h : RdAt w b l' t) (ht : t ≠ 0) (h3 : w.cell? ⟨p3, 0, none⟩ = some (.pointer (some ⟨b, 0, none⟩))) (h5 : w.cell? ⟨p5, 0, none⟩ = some (.slice A l.length c))
    (hA : Bs w b A l.length l) (hc : l.length ≤ c) (hm : c ≤ maxLen) (h4 : Blk w p4 #[.slice V m d] 23) (hb4 : b < p4) (hb5 : p4 ≠ p5) (hb3 : p4 ≠ p3) :
    CallsD Tryz.prog 225 #[.pointer (some ⟨p3, 0, none⟩), .pointer (some ⟨p5, 0, none⟩), .pointer (some ⟨p4, 0, none⟩)] .returning w fun e u' w' => u' = .returning ∧ (e = .returned (.tuple #[]) ∧ (RdAt w' b l t ∧ Blk w' p4 #[.slice none 0 0] 23 ∧ Turn w w' b (some p4))) := by
  obtain ⟨A', c', h⟩ := h
  obtain ⟨f0, f1⟩ := h.cells
  have fz := h.frozen
  have hbl := h.lt
  have g0 := h4.cell 0
  have gz0 := h4.frozen 0
  have hp4 := h4.lt
  have hp3 := World.block_lt_of_cell? _ _ h3
  have hp5 := World.block_lt_of_cell? _ _ h5
  simp only at hp3 hp5
  simp only [List.getElem?_toArray, List.getElem?_cons_zero] at g0
  have t1 : ((t : Int) != 0) = true := by simp; omega
  have hz1 : RdAt ((w.setCell ⟨p4, 0, none⟩ (.slice none 0 0)).setCell ⟨b, 0, none⟩ (.slice A l.length c)) b l t := ((h.other (p := ⟨p4, 0, none⟩) hb4 (.slice none 0 0)).set0 (hA.setCell (p := ⟨p4, 0, none⟩) (Nat.le_of_lt hb4) (.slice none 0 0)) hc hm).at_
  have hz2 : Blk ((w.setCell ⟨p4, 0, none⟩ (.slice none 0 0)).setCell ⟨b, 0, none⟩ (.slice A l.length c)) p4 #[.slice none 0 0] 23 := Blk.other (h4.set_ 0 (.slice none 0 0)) (q := ⟨b, 0, none⟩) (by show b ≠ p4; omega) _
  have hz3 : Turn w ((w.setCell ⟨p4, 0, none⟩ (.slice none 0 0)).setCell ⟨b, 0, none⟩ (.slice A l.length c)) b (some p4) := Turn.set_ ((Turn.refl w b (some p4)).setOne 0 (.slice none 0 0)) rfl _
  have HZ := Lib.hid (And.intro hz1 (And.intro hz2 hz3))
  clear hz1 hz2 hz3 h h4 ht hA
  generalize l.length = n9 at *
  go_enter_d Tryz.func225, Tryz.ntmps225
  go_wp2
  first | go_end0 | refine bodyPost_ret (results_none rfl _ _ _) rfl ?_
  exact ⟨rfl, HZ.out⟩
set_option maxRecDepth 100000 in
theorem pids_whole (b p q : Nat) (l lr : List UInt8) (t : Nat) (G : Value → World → Prop) (w : World) (h : RdAt w b l 0) (hG : ∀ v W i x, w.heap.size < W.heap.size → G v W → G v (W.setCell ⟨w.heap.size + 1, i, none⟩ x))
    (cn : ∀ W, Below w.heap.size w W → w.heap.size + 2 ≤ W.heap.size → RdAt W b l 0 → Calls Tryz.prog 210 #[.pointer (some ⟨p, 0, none⟩), .pointer (some ⟨q, 0, none⟩)] W (CloP W b (fun v _ => ∃ (V : Option Addr) (m d : Nat), v = .slice V m d) G lr t)) :
    Calls Tryz.prog 209 #[.pointer (some ⟨b, 0, none⟩), .func (.func 210) #[] #[.pointer (some ⟨p, 0, none⟩), .pointer (some ⟨q, 0, none⟩)]] w (WholeG w b (.slice none 0 0) G l lr t) := by
  have hmf : ∀ (fn : Fn) (first cap : Array Value) (w : World), (Instr.makeFunc fn first cap).run Tryz.prog w = .ok (.func fn first cap) w := fun _ _ _ _ => rfl
  obtain ⟨A, c, h0⟩ := id h
  have hbs := h0.2.1
  have hlc := h0.2.2.1
  have hcm := h0.2.2.2
  have hlt := h.lt
  have hb1 : Below w.heap.size w ((w.alloc (.cells #[.pointer (some ⟨b, 0, none⟩)] 91)).alloc (.cells #[.slice none 0 0] 23)) := ((Below.refl _ _).alloc (Nat.le_refl _) _).alloc (by simp) _
  have ce := fun W (h : RdAt W b l 0) => err_any b l 0 W h
  obtain ⟨w1, hw1⟩ : ∃ w1, w1 = ((w.alloc (.cells #[.pointer (some ⟨b, 0, none⟩)] 91)).alloc (.cells #[.slice none 0 0] 23)) := ⟨_, rfl⟩
  have hs1 : w1.heap.size = w.heap.size + 2 := by rw [hw1]; simp
  have b3 : Blk w1 w.heap.size #[.pointer (some ⟨b, 0, none⟩)] 91 := by
    rw [hw1]; exact (Below.heap_alloc _ _ _ (by simp)).trans (heap_alloc_new w _)
  have b4 : Blk w1 (w.heap.size + 1) #[.slice none 0 0] 23 := by
    rw [hw1]
    have := heap_alloc_new (w.alloc (.cells #[.pointer (some ⟨b, 0, none⟩)] 91)) (.cells #[.slice none 0 0] 23)
    simpa [Blk] using this
  rw [← hw1] at hb1
  have h1 := h.later hb1
  have h10 := h0.later hb1
  have HN := Lib.hid cn
  have HG := Lib.hid hG
  clear cn hG
  go_enter_defers Tryz.func209, Tryz.ntmps209
  go_wp2_with fail
  rw [← hw1]
  clear hw1 h h0
  refine (ce w1 h1).mono ?_
  rintro e w' ⟨rfl, rfl⟩
  clear ce
  obtain ⟨f0, f1⟩ := h10.cells
  have g3 := b3.cell 0
  simp only [List.getElem?_toArray, List.getElem?_cons_zero] at g3
  have hb2 : Below w1.heap.size w1 (w1.alloc (.cells #[.slice A l.length c] 39)) := (Below.refl _ _).alloc (Nat.le_refl _) _
  have b5 : Blk (w1.alloc (.cells #[.slice A l.length c] 39)) w1.heap.size #[.slice A l.length c] 39 := heap_alloc_new w1 _
  have hle : w.heap.size ≤ w1.heap.size := by omega
  have hH1 := hide hs1
  clear hs1
  go_wp2_with fail
  have h2 := h1.later hb2
  have k3 := b3.later hb2
  have k4 := b4.later hb2
  have hbz := hb1.trans (hb2.mono hle)
  generalize (w1.alloc (.cells #[.slice A l.length c] 39)) = w2 at b5 h2 k3 k4 hbz ⊢
  have hA2 := hbs.below (hbz.mono (Nat.le_of_lt hlt))
  have hw2 : w.heap.size + 2 ≤ w2.heap.size := by have := b5.lt; have := hH1.out; omega
  clear hb2 f0 f1 g3 h10 h1 b3 b4 hb1
  refine (HN.out w2 hbz hw2 h2).mono ?_
  rintro e w3 ⟨_, l', rfl, ⟨V, m, d, rfl⟩, h3, ht3, hl'⟩
  have n3 : w.heap.size ≠ b := by omega
  have n4 : w.heap.size + 1 ≠ b := by omega
  have n5 : w1.heap.size ≠ b := by omega
  have m3 := k3.turn ht3 n3 (by simp)
  have m4 := k4.turn ht3 n4 (by simp)
  have m5 := b5.turn ht3 n5 (by simp)
  have hA3 := hA2.keep (w' := w3) (fun p hp => World.cell?_of_block (ht3.block p.block (by have := hbz.size; omega) (by omega) (by simp)))
  have htz := Turn.ahead hbz ht3
  have hw3 := ht3.size
  clear h2 k3 k4 b5 ht3 hA2 HN
  have hH2 := hH1.out
  have hl4 : t = 0 → l' = lr ∧ G (.slice V m d) (w3.setCell ⟨w.heap.size + 1, 0, none⟩ (.slice V m d)) := fun e => by
    obtain ⟨e1, hg⟩ := hl' e
    have hG := HG.out
    exact ⟨e1, (hG _ _ 0 (.slice V m d) (by first | omega | (simp; omega)) hg)⟩
  have x3 := (m3.other (q := ⟨w.heap.size + 1, 0, none⟩) (by simp) (.slice V m d))
  have x4 := (m4.set_ 0 (.slice V m d))
  have x5 := (m5.other (q := ⟨w.heap.size + 1, 0, none⟩) (by simp; omega) (.slice V m d))
  have hx := (h3.other (p := ⟨w.heap.size + 1, 0, none⟩) (by simp; omega) (.slice V m d))
  have hAx := (hA3.setCell (p := ⟨w.heap.size + 1, 0, none⟩) (by simp; omega) (.slice V m d))
  have htx := (htz.setNew (p := ⟨w.heap.size + 1, 0, none⟩) (by simp) (.slice V m d))
  have gc0 := m4.cell 0
  have gz0 := m4.frozen 0
  simp only [List.getElem?_toArray, List.getElem?_cons_zero] at gc0
  have n35 : w.heap.size + 1 ≠ w1.heap.size := by omega
  have hL := Lib.hid hl4
  clear hH2 hl' hl4 m3 m4 m5 hA3 htz h3 HG
  go_wp2
  generalize (w3.setCell ⟨w.heap.size + 1, 0, none⟩ (.slice V m d)) = w4 at x3 x4 x5 hx hAx htx hL ⊢
  clear gc0 gz0
  have g3 := x3.cell 0
  have g5 := x5.cell 0
  simp only [List.getElem?_toArray, List.getElem?_cons_zero] at g3 g5
  refine leaves_cons (f := 225) (args := #[.pointer (some ⟨w.heap.size, 0, none⟩), .pointer (some ⟨w1.heap.size, 0, none⟩), .pointer (some ⟨w.heap.size + 1, 0, none⟩)]) (by simp) (by simp [go_sem]) ?_
  by_cases ht : t = 0
  · subst ht
    obtain ⟨rfl, hg⟩ := hL.out rfl
    refine (dpids_ok b _ _ _ l' w4 hx g3).mono ?_
    rintro e u' w'' ⟨rfl, rfl, rfl⟩
    have hr : WholeG w b (.slice none 0 0) G l l' 0 (.returned (.slice V m d)) w4 := .inl ⟨rfl, _, rfl, hg, hx, htx⟩
    refine ⟨.slice V m d, ?_, hr⟩
    have c40 : w4.cell? ⟨w.heap.size + 1, 0, none⟩ = some (.slice V m d) := x4.cell 0
    simp [results, Tryz.results209, go_sem, c40]
  · refine (dpids_back b _ _ _ t V m d l l' A c w4 hx ht g3 g5 hAx hlc hcm x4 (by omega) n35 (by omega)).mono ?_
    rintro e u' w5 ⟨rfl, rfl, h5, x6, ht5⟩
    have hr : WholeG w b (.slice none 0 0) G l lr t (.returned (.slice none 0 0)) w5 := .inr ⟨ht, rfl, h5, htx.trans ht5 (.inr ⟨_, rfl, by omega⟩)⟩
    refine ⟨.slice none 0 0, ?_, hr⟩
    have c60 : w5.cell? ⟨w.heap.size + 1, 0, none⟩ = some (.slice none 0 0) := x6.cell 0
    simp [results, Tryz.results209, go_sem, c60]
set_option maxRecDepth 100000 in
theorem pids_stop (f : Value) (b t : Nat) (l : List UInt8) (w : World) (h : RdAt w b l t) (ht : t ≠ 0) :
    Calls Tryz.prog 209 #[.pointer (some ⟨b, 0, none⟩), f] w (ReadsP w b (.slice none 0 0) l t) := by
  have hb1 : Below w.heap.size w ((w.alloc (.cells #[.pointer (some ⟨b, 0, none⟩)] 91)).alloc (.cells #[.slice none 0 0] 23)) := ((Below.refl _ _).alloc (Nat.le_refl _) _).alloc (by simp) _
  have hbl := h.lt
  have ce := fun W (h : RdAt W b l t) => err_any b l t W h
  have t1 : ((t : Int) != 0) = true := by simp; omega
  have h1 := h.later hb1
  obtain ⟨w1, hw1⟩ : ∃ w1, w1 = ((w.alloc (.cells #[.pointer (some ⟨b, 0, none⟩)] 91)).alloc (.cells #[.slice none 0 0] 23)) := ⟨_, rfl⟩
  have b4 : Blk w1 (w.heap.size + 1) #[.slice none 0 0] 23 := by
    rw [hw1]
    have := heap_alloc_new (w.alloc (.cells #[.pointer (some ⟨b, 0, none⟩)] 91)) (.cells #[.slice none 0 0] 23)
    simpa [Blk] using this
  rw [← hw1] at hb1 h1
  go_enter_defers Tryz.func209, Tryz.ntmps209
  go_wp2_with fail
  rw [← hw1]
  clear hw1 h ht
  refine (ce w1 h1).mono ?_
  rintro e w' ⟨rfl, rfl⟩
  clear ce
  have gc0 := b4.cell 0
  have gz0 := b4.frozen 0
  simp only [List.getElem?_toArray, List.getElem?_cons_zero] at gc0
  have x4 := (b4.set_ 0 (.slice none 0 0))
  have hbx := (hb1.setCell (p := ⟨w.heap.size + 1, 0, none⟩) (by simp) (.slice none 0 0))
  have hlt := h1.lt
  have hbw : b < w.heap.size := hbl
  have hx := (h1.other (p := ⟨w.heap.size + 1, 0, none⟩) (by simp; omega) (.slice none 0 0))
  clear b4 hb1 h1
  go_wp2
  generalize (w1.setCell ⟨w.heap.size + 1, 0, none⟩ (.slice none 0 0)) = w2 at x4 hbx hx ⊢
  have c40 : w2.cell? ⟨w.heap.size + 1, 0, none⟩ = some (.slice none 0 0) := x4.cell 0
  refine ⟨.slice none 0 0, ?_, ?_⟩
  · simp [results, Tryz.results209, go_sem, c40]
  · exact ⟨rfl, hx, Turn.of_below hbx b none⟩
end Go.Proofs.YtjmkecaljkcoiaaGreatDoor
