import Derived.Test.YtjmkecaljkcoiaaDoorQViewO
import Derived.Test.YtjmkecaljkcoiaaDoorQOpenC
import Derived.Deep.RegionHeld3
import Derived.Deep.AppendLies
import Derived.Test.YtjmkecaljkcoiaaDoorQViewP
import Derived.Test.YtjmkecaljkcoiaaDoorQViewH
import Derived.Deep.RegionLaw
namespace Go.Proofs.YtjmkecaljkcoiaaDoor
open Go.RowKit Go.Maps
set_option linter.unusedVariables false
set_option linter.unusedSimpArgs false
end Go.Proofs.YtjmkecaljkcoiaaDoor
namespace Go.Proofs.YtjmkecaljkcoiaaDoor
open Go.RowKit Go.Maps
set_option linter.unusedVariables false
set_option linter.unusedSimpArgs false
structure GetS (w W : World) (b : Nat) (rest : List UInt8) (y : Vw) : Prop where
  v : VAt W (w.heap.size + 1) y
  z : VAt W w.heap.size zeroX
  own : VwOwn W (w.heap.size + 1 + 1) y
  rd : RdAt W b rest 0
  turn : Turn w W b none
  sz : w.heap.size + 1 + 1 ≤ W.heap.size
theorem VwOwn.turnLow {w w' : World} {base b : Nat} {x : Vw} (h : VwOwn w base x) (ht : Turn w w' b none) (hb : b < base) : VwOwn w' base x :=
  ⟨OwnE.turnLow h.ms ht hb, OwnE.turnLow h.lv ht hb, fun y hy => OwnE.turnLow (h.each y hy) ht hb, OwnE.turnLow h.dr ht hb⟩
theorem VwOwn.setFar {w : World} {base : Nat} {x : Vw} (h : VwOwn w base x) {a : Addr} (u : Value) (ha : a.block < base) : VwOwn (w.setCell a u) base x :=
  ⟨OwnE.set_far h.ms u ha, OwnE.set_far h.lv u ha, fun y hy => OwnE.set_far (h.each y hy) u ha, OwnE.set_far h.dr u ha⟩
section
variable {w W W' : World} {b : Nat} {rest rest' : List UInt8} {y : Vw}
theorem GetS.start (hb : b < w.heap.size) (h : RdAt w b rest 0) : GetS w ((w.alloc (.cells #[.int .u64 0, .slice none 0 0, .slice none 0 0, .slice none 0 0] 33)).alloc (.cells #[.int .u64 0, .slice none 0 0, .slice none 0 0, .slice none 0 0] 33)) b rest zeroX := by
  have v1 := VAt.mk_ (w.alloc (.cells #[.int .u64 0, .slice none 0 0, .slice none 0 0, .slice none 0 0] 33)) zeroX
  rw [World.size_alloc] at v1
  exact ⟨v1, (VAt.mk_ w zeroX).alloc _, zeroX_own _ _, (h.alloc _).alloc _, ((Turn.refl w b none).alloc _).alloc _, by simp⟩
theorem GetS.put0 (h : GetS w W b rest y) (hb : b < w.heap.size) (id : Nat) : GetS w (W.setCell ⟨w.heap.size + 1, 0, none⟩ (.int .u64 (id : Int))) b rest ⟨id, y.A, y.m, y.c, y.l, y.B, y.d, y.e, y.q, y.C, y.f, y.g, y.r⟩ :=
  ⟨heap_setCell_same W (w.heap.size + 1) 0 _ _ _ h.v, h.z.far _ (by simp), ⟨(h.own.setFar _ (by simp)).ms, (h.own.setFar _ (by simp)).lv, (h.own.setFar _ (by simp)).each, (h.own.setFar _ (by simp)).dr⟩, h.rd.other (by simp; omega) _, h.turn.setNew (by simp) _, by simp; exact h.sz⟩
end
end Go.Proofs.YtjmkecaljkcoiaaDoor
namespace Go.Proofs.YtjmkecaljkcoiaaDoor
open Go.RowKit Go.Maps
set_option linter.unusedVariables false
set_option linter.unusedSimpArgs false
def VGetP (w : World) (b : Nat) (v : Vi) (t : List UInt8) (e : Ending) (w' : World) : Prop := ∃ y : Vw, e = .returned (.agg #[.int .u64 (y.id : Int), .slice y.A y.m y.c, .slice y.B y.d y.e, .slice y.C y.f y.g]) ∧ y.v = v ∧ VwOwn w' w.heap.size y ∧ VSmall y ∧ RdAt w' b t 0 ∧ Turn w w' b none
def LvS (w W : World) (b : Nat) (v : Vi) (t : List UInt8) (j : Nat) : Prop :=
  ∃ A c B e q, GetS w W b (lvsL v.mem (v.lvs.drop j) ++ (someL v.mem v.ldr ++ t)) ⟨v.id, A, v.mem.length, c, v.mem, B, j, e, q, none, 0, 0, []⟩ ∧ q.map Lf.l = v.lvs.take j ∧ ∀ y ∈ q, y.m ≤ 40
end Go.Proofs.YtjmkecaljkcoiaaDoor
namespace Go.Proofs.YtjmkecaljkcoiaaDoor
open Go.RowKit Go.Maps
set_option linter.unusedVariables false
set_option linter.unusedSimpArgs false
def RfSl (w : World) (b : Nat) (A : Option Addr) (c : Nat) (l : List UInt8) (t : Nat) : Prop :=
  w.heap[b]? = some (.cells #[.slice A l.length c, .int .i64 (t : Int)] 94 (0, 0)) ∧ Bs w b A l.length l ∧ l.length ≤ c ∧ c ≤ maxLen
def RfAt (w : World) (b : Nat) (l : List UInt8) (t : Nat) : Prop := ∃ A c, RfSl w b A c l t
section
variable {w w' : World} {b b' c t : Nat} {mg : Option Nat} {A : Option Addr} {l : List UInt8}
theorem RfSl.lt (h : RfSl w b A c l t) : b < w.heap.size := lt_of_heap h.1
theorem RfSl.cells (h : RfSl w b A c l t) : w.cell? ⟨b, 0, none⟩ = some (.slice A l.length c) ∧ w.cell? ⟨b, 1, none⟩ = some (.int .i64 (t : Int)) := by
  have hf : ∀ y, w.cell? ⟨b, y, none⟩ = (#[.slice A l.length c, .int .i64 (t : Int)] : Array Value)[y]? := by
    intro y
    have h1 := h.1
    simp [World.cell?, h1]
  exact ⟨hf 0, hf 1⟩
theorem RfSl.frozen (h : RfSl w b A c l t) (y : Nat) : w.frozen? ⟨b, y, none⟩ = false := frozen_of_row w b y _ _ h.1
theorem RfSl.keep (h : RfSl w b A c l t) (hk : ∀ i, i ≤ b → w'.heap[i]? = w.heap[i]?) : RfSl w' b A c l t :=
  ⟨(hk b (Nat.le_refl _)).trans h.1, h.2.1.keep fun p hp => World.cell?_of_block (hk p.block (by omega)), h.2.2⟩
theorem RfSl.later (h : RfSl w b A c l t) (hb : Below w.heap.size w w') : RfSl w' b A c l t := h.keep fun i hi => hb.block i (by have := h.lt; omega)
theorem RfSl.turn (h : RfSl w b A c l t) (ht : Turn w w' b' mg) (h1 : b < b') (h2 : ∀ g, mg = some g → b < g) : RfSl w' b A c l t :=
  h.keep fun i hi => ht.block i (by have := h.lt; omega) (by omega) fun e => by have := h2 i e.symm; omega
theorem RfSl.other (h : RfSl w b A c l t) {p : Addr} (hp : b < p.block) (u : Value) : RfSl (w.setCell p u) b A c l t := h.keep fun i hi => Below.heap_setCell w p u i (by omega)
theorem RfSl.alloc (h : RfSl w b A c l t) (o : Obj) : RfSl (w.alloc o) b A c l t := h.later ((Below.refl _ _).alloc (Nat.le_refl _) o)
theorem RfSl.set0 (h : RfSl w b A c l t) {A' : Option Addr} {c' : Nat} {l' : List UInt8} (hA : Bs w b A' l'.length l') (h1 : l'.length ≤ c') (h2 : c' ≤ maxLen) : RfSl (w.setCell ⟨b, 0, none⟩ (.slice A' l'.length c')) b A' c' l' t := by
  refine ⟨?_, hA.setCell (p := ⟨b, 0, none⟩) (Nat.le_refl _) _, h1, h2⟩
  have := heap_setCell_same w b 0 _ _ (.slice A' l'.length c') h.1
  rw [this]
  rfl
theorem RfSl.set1 (h : RfSl w b A c l t) (t' : Nat) : RfSl (w.setCell ⟨b, 1, none⟩ (.int .i64 (t' : Int))) b A c l t' := by
  refine ⟨?_, h.2.1.setCell (p := ⟨b, 1, none⟩) (Nat.le_refl _) _, h.2.2⟩
  have := heap_setCell_same w b 1 _ _ (.int .i64 (t' : Int)) h.1
  rw [this]
  rfl
theorem RfSl.at_ (h : RfSl w b A c l t) : RfAt w b l t := ⟨A, c, h⟩
theorem RfAt.lt (h : RfAt w b l t) : b < w.heap.size := by obtain ⟨A, c, h⟩ := h; exact h.lt
theorem RfAt.later (h : RfAt w b l t) (hb : Below w.heap.size w w') : RfAt w' b l t := by obtain ⟨A, c, h⟩ := h; exact ⟨A, c, h.later hb⟩
theorem RfAt.turn (h : RfAt w b l t) (ht : Turn w w' b' mg) (h1 : b < b') (h2 : ∀ g, mg = some g → b < g) : RfAt w' b l t := by obtain ⟨A, c, h⟩ := h; exact ⟨A, c, h.turn ht h1 h2⟩
theorem RfAt.other (h : RfAt w b l t) {p : Addr} (hp : b < p.block) (u : Value) : RfAt (w.setCell p u) b l t := by obtain ⟨A, c, h⟩ := h; exact ⟨A, c, h.other hp u⟩
theorem RfAt.alloc (h : RfAt w b l t) (o : Obj) : RfAt (w.alloc o) b l t := by obtain ⟨A, c, h⟩ := h; exact ⟨A, c, h.alloc o⟩
end
def ReadsF (w : World) (b : Nat) (v : Value) (l : List UInt8) (t : Nat) (e : Ending) (w' : World) : Prop := e = .returned v ∧ RfAt w' b l t ∧ Turn w w' b none
theorem RfSl.cut {w : World} {b c t : Nat} {A : Option Addr} {l : List UInt8} (h : RfSl w b A c l t) {k : Nat} (hk : k ≤ l.length) : RfSl (w.setCell ⟨b, 0, none⟩ (.slice (if c = k then A else A.map (·.add k)) (l.length - k) (c - k))) b (if c = k then A else A.map (·.add k)) (c - k) (l.drop k) t := by
  have hm := h.2.2
  have hz := h.set0 (l' := l.drop k) (A' := (if c = k then A else A.map (·.add k))) (c' := c - k) (by rw [List.length_drop]; exact h.2.1.cut hk hm.1) (by rw [List.length_drop]; omega) (by omega)
  rw [List.length_drop] at hz
  exact hz
set_option maxRecDepth 100000 in
set_option maxHeartbeats 1000000 in
theorem xnum_tot (b most : Nat) (s : RS) (w : World) (h : RfAt w b s.l s.t) (hm : most < 18446744073709551616) :
    Calls Tryd.prog 56 #[.pointer (some ⟨b, 0, none⟩), .int .u64 (most : Int)] w (ReadsF w b (.int .u64 ((numS most s).1 : Nat)) (numS most s).2.l (numS most s).2.t) := by
  obtain ⟨l, t⟩ := s
  dsimp only at h
  obtain ⟨A, c, h⟩ := h
  obtain ⟨f0, f1⟩ := h.cells
  have fz := h.frozen
  have hlc := h.2.2.1
  have hcm := h.2.2.2
  unfold maxLen at hcm
  by_cases ht : t = 0
  case neg =>
    rw [numS_stop (s := ⟨l, t⟩) ht]
    have hq : ReadsF w b (.int .u64 ((0 : Nat) : Int)) l t (.returned (.int .u64 0)) w := ⟨rfl, h.at_, Turn.refl _ _ _⟩
    have HQ := hide hq
    have x1 : ((t : Int) != 0) = true := by simp only [bne_iff_ne, ne_eq]; omega
    clear h hq ht
    go_enter Tryd.func56, Tryd.ntmps56
    go_wp2
    go_ret
    exact HQ.out
  subst ht
  have cg := rgetShort_any A l.length c l b w h.2.1 (by unfold maxLen; omega)
  have hbd := getF_bds l
  have hN : numS most ⟨l, 0⟩ = if (getF l).2.2 = 0 then (if most < (getF l).1 then (0, ⟨l, 3⟩) else ((getF l).1, ⟨l.drop (getF l).2.1, 0⟩)) else (0, ⟨l, (getF l).2.2⟩) := by
    unfold numS numE
    simp only [if_true]
    by_cases a : (getF l).2.2 = 0
    · by_cases d : most < (getF l).1
      · simp [a, d]
      · simp [a, d]
    · simp [a]
  generalize getF l = r at *
  obtain ⟨n, k, e⟩ := r
  dsimp only at cg hbd hN
  by_cases he : e = 0
  case neg =>
    rw [hN, if_neg he]
    have hq : ReadsF w b (.int .u64 ((0 : Nat) : Int)) l e (.returned (.int .u64 0)) (w.setCell ⟨b, 1, none⟩ (.int .i64 (e : Int))) := ⟨rfl, (h.set1 e).at_, (Turn.refl _ _ _).set_ rfl _⟩
    have HQ := hide hq
    have x1 : ((e : Int) == 0) = false := by rw [beq_eq_false_iff_ne]; omega
    have x2 : ((e : Int) != 0) = true := by simp only [bne_iff_ne, ne_eq]; omega
    have x3 : ¬ ((e : Int) = 0) := by omega
    have fz1 := fz 1
    clear h hq he hN hbd fz
    go_enter Tryd.func56, Tryd.ntmps56
    go_wp2_with fail
    refine cg.mono ?_
    rintro e9 w9 ⟨rfl, rfl⟩
    go_wp2
    go_ret
    exact HQ.out
  subst he
  by_cases hmn : most < n
  · rw [hN, if_pos rfl, if_pos hmn]
    have hq : ReadsF w b (.int .u64 ((0 : Nat) : Int)) l 3 (.returned (.int .u64 0)) (w.setCell ⟨b, 1, none⟩ (.int .i64 3)) := ⟨rfl, (h.set1 3).at_, (Turn.refl _ _ _).set_ rfl _⟩
    have HQ := hide hq
    have x1 : decide ((most : Int) < (n : Int)) = true := decide_eq_true (by omega)
    have fz1 := fz 1
    clear h hq hN hbd fz
    go_enter Tryd.func56, Tryd.ntmps56
    go_wp2_with fail
    refine cg.mono ?_
    rintro e9 w9 ⟨rfl, rfl⟩
    go_wp2
    go_ret
    exact HQ.out
  · rw [hN, if_pos rfl, if_neg hmn]
    have hkl : k ≤ l.length := hbd.2.1
    have hz := h.cut hkl
    have x1 : decide ((most : Int) < (n : Int)) = false := decide_eq_false (by omega)
    have fz0 := fz 0
    generalize hn : l.length = q at *
    clear hn
    by_cases hck : c = k
    · obtain rfl : q = k := by omega
      obtain rfl := hck
      rw [if_pos rfl, Nat.sub_self] at hz
      have hq : ReadsF w b (.int .u64 (n : Int)) (l.drop c) 0 (.returned (.int .u64 (n : Int))) (w.setCell ⟨b, 0, none⟩ (.slice A 0 0)) := ⟨rfl, hz.at_, (Turn.refl _ _ _).set_ rfl _⟩
      have HQ := hide hq
      clear h hz hq hN hbd fz
      go_enter Tryd.func56, Tryd.ntmps56
      go_wp2_with fail
      refine cg.mono ?_
      rintro e9 w9 ⟨rfl, rfl⟩
      go_wp2
      go_ret
      exact HQ.out
    · rw [if_neg hck] at hz
      have hq : ReadsF w b (.int .u64 (n : Int)) (l.drop k) 0 (.returned (.int .u64 (n : Int))) (w.setCell ⟨b, 0, none⟩ (.slice (A.map (·.add k)) (q - k) (c - k))) := ⟨rfl, hz.at_, (Turn.refl _ _ _).set_ rfl _⟩
      have HQ := hide hq
      have hlt : k < c := by omega
      clear h hz hq hN hbd fz
      go_enter Tryd.func56, Tryd.ntmps56
      go_wp2_with fail
      refine cg.mono ?_
      rintro e9 w9 ⟨rfl, rfl⟩
      go_wp2
      go_ret
      exact HQ.out
end Go.Proofs.YtjmkecaljkcoiaaDoor
namespace Go.Proofs.YtjmkecaljkcoiaaDoor
open Go.RowKit Go.Maps
set_option linter.unusedVariables false
set_option linter.unusedSimpArgs false
theorem xend_any (b : Nat) (l : List UInt8) (t : Nat) (w : World) (h : RfAt w b l t) :
    Calls Tryd.prog 58 #[.pointer (some ⟨b, 0, none⟩)] w fun e w' => e = .returned (.int .i64 (endF l t : Nat)) ∧ w = w' := by
  obtain ⟨A, c, h⟩ := h
  obtain ⟨f0, f1⟩ := h.cells
  clear h
  unfold endF
  by_cases ht : t = 0
  · subst ht
    obtain ⟨n, hn⟩ : ∃ n, n = l.length := ⟨_, rfl⟩
    rw [← hn] at f0 ⊢
    clear hn
    have f1' : w.cell? ⟨b, 1, none⟩ = some (.int .i64 0) := f1
    by_cases hl : n = 0
    · rw [if_pos rfl, if_pos hl]
      subst hl
      have f0' : w.cell? ⟨b, 0, none⟩ = some (.slice A 0 c) := f0
      clear f0 f1
      go_enter Tryd.func58, Tryd.ntmps58
      go_wp2
      go_ret
      exact ⟨rfl, rfl⟩
    · rw [if_pos rfl, if_neg hl]
      have x1 : 0 < n := by omega
      clear f1 hl
      go_enter Tryd.func58, Tryd.ntmps58
      go_wp2
      go_ret
      exact ⟨rfl, rfl⟩
  · rw [if_neg ht]
    have t1 : ((t : Int) == 0) = false := by rw [beq_eq_false_iff_ne]; omega
    clear ht
    go_enter Tryd.func58, Tryd.ntmps58
    go_wp2
    go_ret
    exact ⟨rfl, rfl⟩
end Go.Proofs.YtjmkecaljkcoiaaDoor
