import Derived.Test.YtjmkecaljkcoiaaDoorQViewD
import Derived.Test.YtjmkecaljkcoiaaDoorQViewP
import Derived.Laws.IdiomStrings
import Derived.Test.YtjmkecaljkcoiaaDoorQMsg6
namespace Go.Proofs.YtjmkecaljkcoiaaDoor
open Go.RowKit Go.Maps
set_option linter.unusedVariables false
set_option linter.unusedSimpArgs false
end Go.Proofs.YtjmkecaljkcoiaaDoor
namespace Go.Proofs.YtjmkecaljkcoiaaDoor
open Go.RowKit Go.Maps
set_option linter.unusedVariables false
set_option linter.unusedSimpArgs false
structure MmTo (l : List Pr) (k : Nat) : Prop where
  each : ∀ p ∈ l.take k, p.i < 16 ∧ 0 < p.k
  ids : ((l.take k).map Pr.i).Nodup
theorem MmTo.start (l : List Pr) : MmTo l 0 := ⟨fun p h => by simp at h, by simp⟩
def IdNo (l : List Pr) (i k : Nat) : Prop := ∀ q ∈ l.take k, q.i ≠ i
theorem IdNo.start (l : List Pr) (i : Nat) : IdNo l i 0 := fun p h => by simp at h
theorem IdNo.step {l : List Pr} {i k : Nat} (h : IdNo l i k) (hk : k < l.length) (hn : l[k].i ≠ i) : IdNo l i (k + 1) := by
  unfold IdNo at *
  rw [List.take_succ_eq_append_getElem hk]
  intro q hq
  rw [List.mem_append, List.mem_singleton] at hq
  exact hq.elim (h q) (fun e => e ▸ hn)
theorem MmTo.step {l : List Pr} {k : Nat} (h : MmTo l k) (hk : k < l.length) (hm : mayP l[k] = true) (hn : IdNo l l[k].i k) : MmTo l (k + 1) := by
  refine ⟨fun p hp => ?_, ?_⟩
  · rw [List.take_succ_eq_append_getElem hk, List.mem_append, List.mem_singleton] at hp
    exact hp.elim (h.each p) (fun e => e ▸ (mayP_iff _).1 hm)
  · rw [List.take_succ_eq_append_getElem hk, List.map_append, List.nodup_append]
    refine ⟨h.ids, by simp, fun a ha b hb e => ?_⟩
    obtain ⟨q, hq, rfl⟩ := List.mem_map.1 ha
    simp at hb
    exact hn q hq (e.trans hb)
theorem MmTo.done {l : List Pr} {k : Nat} (h : MmTo l k) (hk : l.length ≤ k) (h1 : 1 ≤ l.length) (h2 : l.length ≤ 24) : MayMem l := by
  obtain ⟨e1, e2⟩ := h
  rw [List.take_of_length_le hk] at e1 e2
  exact ⟨h1, h2, e1, e2⟩
theorem MmTo.not {l : List Pr} {k : Nat} (hk : k < l.length) (hm : mayP l[k] = false) : ¬ MayMem l := fun h => by
  have := (mayP_iff _).2 (h.each _ (List.getElem_mem hk))
  rw [hm] at this
  cases this
theorem MmTo.twice {l : List Pr} {i k : Nat} (hk : k < i) (hi : i < l.length) (he : l[k].i = l[i].i) : ¬ MayMem l := fun h => by
  have h1 : (l.map Pr.i)[k]'(by simp; omega) = (l.map Pr.i)[i]'(by simp; omega) := by simp [he]
  have := (List.getElem_inj h.ids).1 h1
  omega
def OnTo (l : List Pr) (lvs : List (List Pr)) (k : Nat) : Prop := ∀ p ∈ l.take k, lvs.flatten.count p = 1
theorem OnTo.start (l : List Pr) (lvs : List (List Pr)) : OnTo l lvs 0 := fun p h => by simp at h
theorem OnTo.step {l : List Pr} {lvs : List (List Pr)} {k : Nat} (h : OnTo l lvs k) (hk : k < l.length) (hn : lvs.flatten.count l[k] = 1) : OnTo l lvs (k + 1) := by
  unfold OnTo at *
  rw [List.take_succ_eq_append_getElem hk]
  intro q hq
  rw [List.mem_append, List.mem_singleton] at hq
  exact hq.elim (h q) (fun e => e ▸ hn)
theorem OnTo.done {l : List Pr} {lvs : List (List Pr)} {k : Nat} (h : OnTo l lvs k) (hk : l.length ≤ k) : ∀ p ∈ l, lvs.flatten.count p = 1 := by
  unfold OnTo at h
  rwa [List.take_of_length_le hk] at h
def CtTo (lvs : List (List Pr)) (p : Pr) (k n : Nat) : Prop := n = (lvs.take k).flatten.count p
theorem CtTo.start (lvs : List (List Pr)) (p : Pr) : CtTo lvs p 0 0 := by simp [CtTo]
theorem CtTo.done {lvs : List (List Pr)} {p : Pr} {k n : Nat} (h : CtTo lvs p k n) (hk : lvs.length ≤ k) : n = lvs.flatten.count p := by
  unfold CtTo at h
  rwa [List.take_of_length_le hk] at h
def CjTo (lvs : List (List Pr)) (l : List Pr) (p : Pr) (k j n : Nat) : Prop := n = (lvs.take k).flatten.count p + (l.take j).count p
theorem CtTo.in_ {lvs : List (List Pr)} {p : Pr} {k n : Nat} (h : CtTo lvs p k n) (l : List Pr) : CjTo lvs l p k 0 n := by unfold CjTo; rw [List.take_zero, h]; simp
theorem CjTo.out_ {lvs : List (List Pr)} {l : List Pr} {p : Pr} {k j n : Nat} (h : CjTo lvs l p k j n) (hk : k < lvs.length) (hl : lvs[k] = l) (hj : l.length ≤ j) : CtTo lvs p (k + 1) n := by
  unfold CjTo at h
  unfold CtTo
  rw [flatten_take hk, List.count_append, hl, h, List.take_of_length_le hj]
theorem CjTo.yes {lvs : List (List Pr)} {l : List Pr} {p : Pr} {k j n : Nat} (h : CjTo lvs l p k j n) (hj : j < l.length) (he : l[j] = p) : CjTo lvs l p k (j + 1) (n + 1) := by
  unfold CjTo at *
  rw [List.take_succ_eq_append_getElem hj, List.count_append, he, h]
  simp
  omega
theorem CjTo.no {lvs : List (List Pr)} {l : List Pr} {p : Pr} {k j n : Nat} (h : CjTo lvs l p k j n) (hj : j < l.length) (he : l[j] ≠ p) : CjTo lvs l p k (j + 1) n := by
  unfold CjTo at *
  rw [List.take_succ_eq_append_getElem hj, List.count_append, h]
  simp [he]
def LrTo (mem : List Pr) (lvs : List (List Pr)) (k : Nat) : Prop := ∀ l ∈ lvs.take k, l ≠ [] ∧ RiseP mem l
theorem LrTo.start (mem : List Pr) (lvs : List (List Pr)) : LrTo mem lvs 0 := fun p h => by simp at h
theorem LrTo.step {mem : List Pr} {lvs : List (List Pr)} {k : Nat} (h : LrTo mem lvs k) (hk : k < lvs.length) (h1 : lvs[k] ≠ []) (h2 : RiseP mem lvs[k]) : LrTo mem lvs (k + 1) := by
  unfold LrTo at *
  rw [List.take_succ_eq_append_getElem hk]
  intro q hq
  rw [List.mem_append, List.mem_singleton] at hq
  exact hq.elim (h q) (fun e => e ▸ ⟨h1, h2⟩)
theorem LrTo.done {mem : List Pr} {lvs : List (List Pr)} {k : Nat} (h : LrTo mem lvs k) (hk : lvs.length ≤ k) : ∀ l ∈ lvs, l ≠ [] ∧ RiseP mem l := by
  unfold LrTo at h
  rwa [List.take_of_length_le hk] at h
end Go.Proofs.YtjmkecaljkcoiaaDoor
namespace Go.Proofs.YtjmkecaljkcoiaaDoor
open Go.RowKit Go.Maps
set_option linter.unusedVariables false
set_option linter.unusedSimpArgs false
end Go.Proofs.YtjmkecaljkcoiaaDoor
namespace Go.Proofs.YtjmkecaljkcoiaaDoor
open Go.RowKit Go.Maps
set_option linter.unusedVariables false
set_option linter.unusedSimpArgs false
def tx10 (l : List UInt8) : ByteArray := ⟨l.toArray⟩
def fldT : Nat → List UInt8
  | 1 => [119, 118, 110, 104, 121] | 2 => [115, 104, 99] | 3 => [115] | 4 => [115, 98] | 5 => [115, 98, 112] | 6 => [115, 98, 99] | 7 => [115, 98] | 8 => [115, 98] | 9 => [118, 104] | 10 => [119, 118, 110, 104] | 11 => [119, 104] | 12 => [115, 86, 121] | 13 => [119, 104] | 14 => [118] | _ => []
def fldI (k : Int) : List UInt8 := fldT k.toNat
def Great10P (w : World) (z : Mx) (e : Ending) (w' : World) : Prop := ∃ b : Bool, e = .returned (.bool b) ∧ (b = false → MSmall z) ∧ Below w.heap.size w w'
set_option maxRecDepth 100000 in
theorem great10_any (z : Mx) (B : Nat) (w : World) (h : MxIn w B z) (hB : B ≤ w.heap.size) :
    Calls Tryd.prog 7 #[.agg #[.int .i64 z.kind, .int .u16 (z.who.i : Int), .int .u32 (z.who.k : Int), .int .u64 (z.view : Int), .int .u64 (z.slot : Int), .int .u64 (z.num : Int), .int .i64 z.hops, .int .u32 (z.b.r : Int), .int .u16 (z.b.p.i : Int), .int .u32 (z.b.p.k : Int), .int .u32 (z.a.r : Int), .int .u16 (z.a.p.i : Int), .int .u32 (z.a.p.k : Int), .bool z.has, .int .i64 z.y.kind, .int .u16 (z.y.p.i : Int), .int .u32 (z.y.p.k : Int), .int .u64 (z.y.num : Int), .int .u64 (z.y.vn : Int), .slice z.y.A z.y.n z.y.c, .int .u64 (z.y.x.id : Int), .slice z.y.x.A z.y.x.m z.y.x.c, .slice z.y.x.B z.y.x.d z.y.x.e, .slice z.y.x.C z.y.x.f z.y.x.g, .int .u64 (z.x.id : Int), .slice z.x.A z.x.m z.x.c, .slice z.x.B z.x.d z.x.e, .slice z.x.C z.x.f z.x.g, .slice z.A z.n z.c]] w (Great10P w z) := by
  have hbz : Below w.heap.size w (w.alloc (.cells #[.int .i64 z.kind, .int .u16 (z.who.i : Int), .int .u32 (z.who.k : Int), .int .u64 (z.view : Int), .int .u64 (z.slot : Int), .int .u64 (z.num : Int), .int .i64 z.hops, .int .u32 (z.b.r : Int), .int .u16 (z.b.p.i : Int), .int .u32 (z.b.p.k : Int), .int .u32 (z.a.r : Int), .int .u16 (z.a.p.i : Int), .int .u32 (z.a.p.k : Int), .bool z.has, .int .i64 z.y.kind, .int .u16 (z.y.p.i : Int), .int .u32 (z.y.p.k : Int), .int .u64 (z.y.num : Int), .int .u64 (z.y.vn : Int), .slice z.y.A z.y.n z.y.c, .int .u64 (z.y.x.id : Int), .slice z.y.x.A z.y.x.m z.y.x.c, .slice z.y.x.B z.y.x.d z.y.x.e, .slice z.y.x.C z.y.x.f z.y.x.g, .int .u64 (z.x.id : Int), .slice z.x.A z.x.m z.x.c, .slice z.x.B z.x.d z.x.e, .slice z.x.C z.x.f z.x.g, .slice z.A z.n z.c] 37)) := (Below.refl _ _).alloc (Nat.le_refl _) _
  have v0 := MAt10.mk_ w z
  have cg := great9_any z.y B (w.alloc (.cells #[.int .i64 z.kind, .int .u16 (z.who.i : Int), .int .u32 (z.who.k : Int), .int .u64 (z.view : Int), .int .u64 (z.slot : Int), .int .u64 (z.num : Int), .int .i64 z.hops, .int .u32 (z.b.r : Int), .int .u16 (z.b.p.i : Int), .int .u32 (z.b.p.k : Int), .int .u32 (z.a.r : Int), .int .u16 (z.a.p.i : Int), .int .u32 (z.a.p.k : Int), .bool z.has, .int .i64 z.y.kind, .int .u16 (z.y.p.i : Int), .int .u32 (z.y.p.k : Int), .int .u64 (z.y.num : Int), .int .u64 (z.y.vn : Int), .slice z.y.A z.y.n z.y.c, .int .u64 (z.y.x.id : Int), .slice z.y.x.A z.y.x.m z.y.x.c, .slice z.y.x.B z.y.x.d z.y.x.e, .slice z.y.x.C z.y.x.f z.y.x.g, .int .u64 (z.x.id : Int), .slice z.x.A z.x.m z.x.c, .slice z.x.B z.x.d z.x.e, .slice z.x.C z.x.f z.x.g, .slice z.A z.n z.c] 37)) (h.cm.below (hbz.mono hB)) (Nat.le_trans hB hbz.size)
  have CV := fun W (hb : Below w.heap.size w W) => great8_any z.x B W (h.vw.below (hb.mono hB)) (Nat.le_trans hB hb.size)
  clear h
  unfold Great9P at cg
  obtain ⟨j0, j1, j2, j3, j4, j5, j6, j7, j8, j9, j10, j11, j12, j13, j14, j15, j16, j17, j18, j19, j20, j21, j22, j23, j24, j25, j26, j27, j28⟩ := v0.cells
  have hlt := v0.lt
  by_cases hn : 400 < z.n
  · have z1 : decide ((400 : Int) < (z.n : Int)) = true := decide_eq_true (by omega)
    clear hn
    go_enter Tryd.func7, Tryd.ntmps7
    go_wp2
    go_ret
    exact ⟨true, rfl, (fun h => by cases h), hbz⟩
  · have z1 : decide ((400 : Int) < (z.n : Int)) = false := decide_eq_false (by omega)
    have hn2 : z.n ≤ 400 := by omega
    have HN := hide hn2
    clear hn hn2
    go_enter Tryd.func7, Tryd.ntmps7
    go_wp2_with fail
    refine cg.mono ?_
    rintro e w2 ⟨gb, rfl, hsm, hb⟩
    have hb2 := hbz.trans (hb.mono hbz.size)
    have v2 := v0.later hb
    have HS := hide hsm
    clear hsm hlt v0 j0 j1 j2 j3 j4 j5 j6 j7 j8 j9 j10 j11 j12 j13 j14 j15 j16 j17 j18 j19 j20 j21 j22 j23 j24 j25 j26 j27 j28
    obtain ⟨j0, j1, j2, j3, j4, j5, j6, j7, j8, j9, j10, j11, j12, j13, j14, j15, j16, j17, j18, j19, j20, j21, j22, j23, j24, j25, j26, j27, j28⟩ := v2.cells
    have hlt := v2.lt
    cases gb
    · have cv := CV w2 hb2
      unfold Great8P at cv
      go_wp2_with fail
      refine cv.mono ?_
      rintro e w3 ⟨gv, rfl, hsv, hb⟩
      have hb3 := hb2.trans (hb.mono hb2.size)
      have HV := hide hsv
      clear hsv CV
      go_wp2
      go_ret
      exact ⟨gv, rfl, fun h => ⟨HN.out, HS.out (by first | rfl | trivial), HV.out h⟩, hb3⟩
    · clear CV
      go_wp2
      go_ret
      exact ⟨true, rfl, (fun h => by cases h), hb2⟩
end Go.Proofs.YtjmkecaljkcoiaaDoor
