import Derived.Test.YtjmkecaljkcoiaaGreatDoorQMsg10M
import Derived.Test.YtjmkecaljkcoiaaGreatDoorQMsg8M
import Derived.Test.YtjmkecaljkcoiaaGreatDoorQOpenC
import Derived.Test.YtjmkecaljkcoiaaGreatDoorQRdU
namespace Go.Proofs.YtjmkecaljkcoiaaGreatDoor
open Go.RowKit
set_option linter.unusedVariables false
set_option linter.unusedSimpArgs false
noncomputable def stL (c : UInt8) (x : Ms × RS) : Ms × RS :=
  if c = 119 then ({ x.1 with who := (pidQ x.2).1 }, (pidQ x.2).2)
  else if c = 118 then ({ x.1 with view := (numS 4611686018427387904 x.2).1 }, (numS 4611686018427387904 x.2).2)
  else if c = 115 then ({ x.1 with slot := (numS 4611686018427387904 x.2).1 }, (numS 4611686018427387904 x.2).2)
  else if c = 98 then ({ x.1 with b := (balS x.2).1 }, (balS x.2).2)
  else if c = 110 then ({ x.1 with num := (numS 4611686018427387904 x.2).1 }, (numS 4611686018427387904 x.2).2)
  else if c = 104 then ({ x.1 with hops := ((numS 4 x.2).1 : Nat) }, (numS 4 x.2).2)
  else if c = 112 then
    (if (truS x.2).1 = true then ({ x.1 with has := (truS x.2).1, a := (balS (truS x.2).2).1, c := (cmdS (balS (truS x.2).2).2).1 }, (cmdS (balS (truS x.2).2).2).2)
     else ({ x.1 with has := (truS x.2).1 }, (truS x.2).2))
  else if c = 99 then ({ x.1 with c := (cmdS x.2).1 }, (cmdS x.2).2)
  else if c = 86 then ({ x.1 with v := (viewS x.2).1 }, (viewS x.2).2)
  else if c = 121 then ({ x.1 with d := (bytS 200 x.2).1 }, (bytS 200 x.2).2)
  else x
noncomputable def fold10 (l : List UInt8) (x : Ms × RS) : Ms × RS := l.foldl (fun x c => stL c x) x
theorem fold10_step {l : List UInt8} {k : Nat} (hk : k < l.length) (x : Ms × RS) : fold10 (l.take (k + 1)) x = stL l[k] (fold10 (l.take k) x) := by
  unfold fold10
  rw [List.take_succ_eq_append_getElem hk, List.foldl_append]
  rfl
theorem stL_119 (x : Ms × RS) : stL 119 x = ({ x.1 with who := (pidQ x.2).1 }, (pidQ x.2).2) := rfl
theorem stL_118 (x : Ms × RS) : stL 118 x = ({ x.1 with view := (numS 4611686018427387904 x.2).1 }, (numS 4611686018427387904 x.2).2) := rfl
theorem stL_115 (x : Ms × RS) : stL 115 x = ({ x.1 with slot := (numS 4611686018427387904 x.2).1 }, (numS 4611686018427387904 x.2).2) := rfl
theorem stL_98 (x : Ms × RS) : stL 98 x = ({ x.1 with b := (balS x.2).1 }, (balS x.2).2) := rfl
theorem stL_110 (x : Ms × RS) : stL 110 x = ({ x.1 with num := (numS 4611686018427387904 x.2).1 }, (numS 4611686018427387904 x.2).2) := rfl
theorem stL_104 (x : Ms × RS) : stL 104 x = ({ x.1 with hops := ((numS 4 x.2).1 : Nat) }, (numS 4 x.2).2) := rfl
theorem stL_112 (x : Ms × RS) : stL 112 x = if (truS x.2).1 = true then ({ x.1 with has := (truS x.2).1, a := (balS (truS x.2).2).1, c := (cmdS (balS (truS x.2).2).2).1 }, (cmdS (balS (truS x.2).2).2).2) else ({ x.1 with has := (truS x.2).1 }, (truS x.2).2) := rfl
theorem stL_99 (x : Ms × RS) : stL 99 x = ({ x.1 with c := (cmdS x.2).1 }, (cmdS x.2).2) := rfl
theorem stL_86 (x : Ms × RS) : stL 86 x = ({ x.1 with v := (viewS x.2).1 }, (viewS x.2).2) := rfl
theorem stL_121 (x : Ms × RS) : stL 121 x = ({ x.1 with d := (bytS 200 x.2).1 }, (bytS 200 x.2).2) := rfl
theorem getM_fold (s : RS) : getM s = fold10 (fldI ((numS 14 s).1 : Int)) (kindM (numS 14 s).1, (numS 14 s).2) := by
  have h := numS_le 14 s
  unfold getM
  generalize (numS 14 s).1 = k at *
  generalize (numS 14 s).2 = s1
  by_cases h5 : k = 5
  · subst h5
    show getB (bitsM 5 (truS _).1) (_, (truS _).2) = _
    generalize hT : truS (balS (numS 4611686018427387904 s1).2).2 = T
    obtain ⟨t, s2⟩ := T
    show getB (bitsM 5 (truS (balS (numS 4611686018427387904 s1).2).2).1) ({ (st5 (tabM 5) (st4 (tabM 5) (st3 (tabM 5) (st2 (tabM 5) (st1 (tabM 5) (st0 (tabM 5) (kindM 5, s1))))))).1 with has := (truS (balS (numS 4611686018427387904 s1).2).2).1 }, (truS (balS (numS 4611686018427387904 s1).2).2).2) = stL 112 ({ (kindM 5) with slot := (numS 4611686018427387904 s1).1, b := (balS (numS 4611686018427387904 s1).2).1 }, (balS (numS 4611686018427387904 s1).2).2)
    rw [stL_112, hT]
    have b1 : bitsM (5 : Int) true = 460 := by unfold bitsM; simp
    have b0 : bitsM (5 : Int) false = tabM 5 := by unfold bitsM; simp
    cases t
    · dsimp only
      rw [b0, if_neg (by decide)]
      rfl
    · dsimp only
      rw [b1, if_pos rfl]
      rfl
  · have hb : ∀ t, bitsM (k : Int) t = tabM k := fun t => by unfold bitsM; rw [if_neg (by omega), Int.toNat_natCast]
    rw [hb]
    have hk : k = 0 ∨ k = 1 ∨ k = 2 ∨ k = 3 ∨ k = 4 ∨ k = 6 ∨ k = 7 ∨ k = 8 ∨ k = 9 ∨ k = 10 ∨ k = 11 ∨ k = 12 ∨ k = 13 ∨ k = 14 := by omega
    rcases hk with rfl | rfl | rfl | rfl | rfl | rfl | rfl | rfl | rfl | rfl | rfl | rfl | rfl | rfl <;> rfl
end Go.Proofs.YtjmkecaljkcoiaaGreatDoor
namespace Go.Proofs.YtjmkecaljkcoiaaGreatDoor
open Go.RowKit Go.Maps
set_option linter.unusedVariables false
set_option linter.unusedSimpArgs false
def RfSl (w : World) (b : Nat) (A : Option Addr) (c : Nat) (l : List UInt8) (t : Nat) : Prop :=
  w.heap[b]? = some (.cells #[.slice A l.length c, .int .i64 t] 98 (0, 0)) ∧ Bs w b A l.length l ∧ l.length ≤ c ∧ c ≤ maxLen
def RfAt (w : World) (b : Nat) (l : List UInt8) (t : Nat) : Prop := ∃ A c, RfSl w b A c l t
section
variable {w w' : World} {b b' c t : Nat} {mg : Option Nat} {A : Option Addr} {l : List UInt8}
theorem RfSl.lt (h : RfSl w b A c l t) : b < w.heap.size := lt_of_heap h.1
theorem RfSl.cells (h : RfSl w b A c l t) : w.cell? ⟨b, 0, none⟩ = some (.slice A l.length c) ∧ w.cell? ⟨b, 1, none⟩ = some (.int .i64 t) := by
  have hf : ∀ y, w.cell? ⟨b, y, none⟩ = (#[.slice A l.length c, .int .i64 t] : Array Value)[y]? := by
    intro y
    have h1 := h.1
    simp [World.cell?, h1]
  exact ⟨hf 0, hf 1⟩
theorem RfSl.frozen (h : RfSl w b A c l t) (y : Nat) : w.frozen? ⟨b, y, none⟩ = false := frozen_of_row w b y _ _ h.1
theorem RfSl.keep (h : RfSl w b A c l t) (hk : ∀ i, i ≤ b → w'.heap[i]? = w.heap[i]?) : RfSl w' b A c l t :=
  ⟨(hk b (Nat.le_refl _)).trans h.1, h.2.1.keep fun p hp => World.cell?_of_block (hk p.block (by omega)), h.2.2⟩
theorem RfSl.later (h : RfSl w b A c l t) (hb : Below w.heap.size w w') : RfSl w' b A c l t := h.keep fun i hi => hb.block i (by have := h.lt; omega)
theorem RfSl.turn (h : RfSl w b A c l t) (ht : Turn w w' b' mg) (h1 : b < b') (h2 : ∀ g, mg = some g → b < g) : RfSl w' b A c l t :=
  h.keep fun i hi => ht.block i (by have := h.lt; omega) (by omega) fun e => by have := h2 i e.symm; omega
theorem RfSl.other (h : RfSl w b A c l t) {p : Addr} (hp : b < p.block) (u : Value) : RfSl (w.setCell p u) b A c l t := h.keep fun i hi => Below.heap_setCell w p u i (by omega)
theorem RfSl.alloc (h : RfSl w b A c l t) (o : Obj) : RfSl (w.alloc o) b A c l t := h.later ((Below.refl _ _).alloc (Nat.le_refl _) o)
theorem RfSl.set0 (h : RfSl w b A c l t) {A' : Option Addr} {c' : Nat} {l' : List UInt8} (hA : Bs w b A' l'.length l') (h1 : l'.length ≤ c') (h2 : c' ≤ maxLen) : RfSl (w.setCell ⟨b, 0, none⟩ (.slice A' l'.length c')) b A' c' l' t := by
  refine ⟨?_, hA.setCell (p := ⟨b, 0, none⟩) (Nat.le_refl _) _, h1, h2⟩
  have := heap_setCell_same w b 0 _ _ (.slice A' l'.length c') h.1
  rw [this]
  rfl
theorem RfSl.set1 (h : RfSl w b A c l t) (t' : Nat) : RfSl (w.setCell ⟨b, 1, none⟩ (.int .i64 t')) b A c l t' := by
  refine ⟨?_, h.2.1.setCell (p := ⟨b, 1, none⟩) (Nat.le_refl _) _, h.2.2⟩
  have := heap_setCell_same w b 1 _ _ (.int .i64 t') h.1
  rw [this]
  rfl
theorem RfSl.at_ (h : RfSl w b A c l t) : RfAt w b l t := ⟨A, c, h⟩
theorem RfAt.lt (h : RfAt w b l t) : b < w.heap.size := by obtain ⟨A, c, h⟩ := h; exact h.lt
theorem RfAt.later (h : RfAt w b l t) (hb : Below w.heap.size w w') : RfAt w' b l t := by obtain ⟨A, c, h⟩ := h; exact ⟨A, c, h.later hb⟩
theorem RfAt.turn (h : RfAt w b l t) (ht : Turn w w' b' mg) (h1 : b < b') (h2 : ∀ g, mg = some g → b < g) : RfAt w' b l t := by obtain ⟨A, c, h⟩ := h; exact ⟨A, c, h.turn ht h1 h2⟩
theorem RfAt.other (h : RfAt w b l t) {p : Addr} (hp : b < p.block) (u : Value) : RfAt (w.setCell p u) b l t := by obtain ⟨A, c, h⟩ := h; exact ⟨A, c, h.other hp u⟩
theorem RfAt.alloc (h : RfAt w b l t) (o : Obj) : RfAt (w.alloc o) b l t := by obtain ⟨A, c, h⟩ := h; exact ⟨A, c, h.alloc o⟩
end
def ReadsF (w : World) (b : Nat) (v : Value) (l : List UInt8) (t : Nat) (e : Ending) (w' : World) : Prop := e = .returned v ∧ RfAt w' b l t ∧ Turn w w' b none
theorem RfSl.cut {w : World} {b c t : Nat} {A : Option Addr} {l : List UInt8} (h : RfSl w b A c l t) {k : Nat} (hk : k ≤ l.length) : RfSl (w.setCell ⟨b, 0, none⟩ (.slice (if c = k then A else A.map (·.add k)) (l.length - k) (c - k))) b (if c = k then A else A.map (·.add k)) (c - k) (l.drop k) t := by
  have hm := h.2.2
  have hz := h.set0 (l' := l.drop k) (A' := (if c = k then A else A.map (·.add k))) (c' := c - k) (by rw [List.length_drop]; exact h.2.1.cut hk hm.1) (by rw [List.length_drop]; omega) (by omega)
  rw [List.length_drop] at hz
  exact hz
set_option maxRecDepth 100000 in
set_option maxHeartbeats 1000000 in
theorem xnum_tot (b most : Nat) (s : RS) (w : World) (h : RfAt w b s.l s.t) (hm : most < 18446744073709551616) :
    Calls Tryz.prog 53 #[.pointer (some ⟨b, 0, none⟩), .int .u64 most] w (ReadsF w b (.int .u64 ((numS most s).1 : Nat)) (numS most s).2.l (numS most s).2.t) := by
  obtain ⟨l, t⟩ := s
  dsimp only at h
  obtain ⟨A, c, h⟩ := h
  obtain ⟨f0, f1⟩ := h.cells
  have fz := h.frozen
  have hlc := h.2.2.1
  have hcm := h.2.2.2
  unfold maxLen at hcm
  by_cases ht : t = 0
  case neg =>
    rw [numS_stop (s := ⟨l, t⟩) ht]
    have hq : ReadsF w b (.int .u64 ((0 : Nat) : Int)) l t (.returned (.int .u64 0)) w := ⟨rfl, h.at_, Turn.refl _ _ _⟩
    have HQ := hide hq
    have x1 : ((t : Int) != 0) = true := by simp only [bne_iff_ne, ne_eq]; omega
    clear h hq ht
    go_enter Tryz.func53, Tryz.ntmps53
    go_wp2
    go_ret
    exact HQ.out
  subst ht
  have cg := rgetShort_any A l.length c l b w h.2.1 (by unfold maxLen; omega)
  have hbd := getF_bds l
  have hN : numS most ⟨l, 0⟩ = if (getF l).2.2 = 0 then (if most < (getF l).1 then (0, ⟨l, 3⟩) else ((getF l).1, ⟨l.drop (getF l).2.1, 0⟩)) else (0, ⟨l, (getF l).2.2⟩) := by
    unfold numS numE
    simp only [if_true]
    by_cases a : (getF l).2.2 = 0
    · by_cases d : most < (getF l).1
      · simp [a, d]
      · simp [a, d]
    · simp [a]
  generalize getF l = r at *
  obtain ⟨n, k, e⟩ := r
  dsimp only at cg hbd hN
  by_cases he : e = 0
  case neg =>
    rw [hN, if_neg he]
    have hq : ReadsF w b (.int .u64 ((0 : Nat) : Int)) l e (.returned (.int .u64 0)) (w.setCell ⟨b, 1, none⟩ (.int .i64 e)) := ⟨rfl, (h.set1 e).at_, (Turn.refl _ _ _).set_ rfl _⟩
    have HQ := hide hq
    have x1 : ((e : Int) == 0) = false := by rw [beq_eq_false_iff_ne]; omega
    have x2 : ((e : Int) != 0) = true := by simp only [bne_iff_ne, ne_eq]; omega
    have x3 : ¬ ((e : Int) = 0) := by omega
    have fz1 := fz 1
    clear h hq he hN hbd fz
    go_enter Tryz.func53, Tryz.ntmps53
    go_wp2_with fail
    refine cg.mono ?_
    rintro e9 w9 ⟨rfl, rfl⟩
    go_wp2
    go_ret
    exact HQ.out
  subst he
  by_cases hmn : most < n
  · rw [hN, if_pos rfl, if_pos hmn]
    have hq : ReadsF w b (.int .u64 ((0 : Nat) : Int)) l 3 (.returned (.int .u64 0)) (w.setCell ⟨b, 1, none⟩ (.int .i64 3)) := ⟨rfl, (h.set1 3).at_, (Turn.refl _ _ _).set_ rfl _⟩
    have HQ := hide hq
    have x1 : decide ((most : Int) < (n : Int)) = true := decide_eq_true (by omega)
    have fz1 := fz 1
    clear h hq hN hbd fz
    go_enter Tryz.func53, Tryz.ntmps53
    go_wp2_with fail
    refine cg.mono ?_
    rintro e9 w9 ⟨rfl, rfl⟩
    go_wp2
    go_ret
    exact HQ.out
  · rw [hN, if_pos rfl, if_neg hmn]
    have hkl : k ≤ l.length := hbd.2.1
    have hz := h.cut hkl
    have x1 : decide ((most : Int) < (n : Int)) = false := decide_eq_false (by omega)
    have fz0 := fz 0
    generalize hn : l.length = q at *
    clear hn
    by_cases hck : c = k
    · obtain rfl : q = k := by omega
      obtain rfl := hck
      rw [if_pos rfl, Nat.sub_self] at hz
      have hq : ReadsF w b (.int .u64 n) (l.drop c) 0 (.returned (.int .u64 n)) (w.setCell ⟨b, 0, none⟩ (.slice A 0 0)) := ⟨rfl, hz.at_, (Turn.refl _ _ _).set_ rfl _⟩
      have HQ := hide hq
      clear h hz hq hN hbd fz
      go_enter Tryz.func53, Tryz.ntmps53
      go_wp2_with fail
      refine cg.mono ?_
      rintro e9 w9 ⟨rfl, rfl⟩
      go_wp2
      go_ret
      exact HQ.out
    · rw [if_neg hck] at hz
      have hq : ReadsF w b (.int .u64 n) (l.drop k) 0 (.returned (.int .u64 n)) (w.setCell ⟨b, 0, none⟩ (.slice (A.map (·.add k)) (q - k) (c - k))) := ⟨rfl, hz.at_, (Turn.refl _ _ _).set_ rfl _⟩
      have HQ := hide hq
      have hlt : k < c := by omega
      clear h hz hq hN hbd fz
      go_enter Tryz.func53, Tryz.ntmps53
      go_wp2_with fail
      refine cg.mono ?_
      rintro e9 w9 ⟨rfl, rfl⟩
      go_wp2
      go_ret
      exact HQ.out
end Go.Proofs.YtjmkecaljkcoiaaGreatDoor
