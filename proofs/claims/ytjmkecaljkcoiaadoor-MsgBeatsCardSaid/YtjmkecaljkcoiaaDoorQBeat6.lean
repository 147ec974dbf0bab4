import Derived.Test.YtjmkecaljkcoiaaDoorQViewD
import Derived.Test.YtjmkecaljkcoiaaDoorQViewP
import Derived.Test.YtjmkecaljkcoiaaDoorQKey3
import Derived.Test.YtjmkecaljkcoiaaDoorQBeat5
namespace Go.Proofs.YtjmkecaljkcoiaaDoor
open Go.RowKit Go.Maps
set_option linter.unusedVariables false
set_option linter.unusedSimpArgs false
end Go.Proofs.YtjmkecaljkcoiaaDoor
namespace Go.Proofs.YtjmkecaljkcoiaaDoor
open Go.RowKit Go.Maps
set_option linter.unusedVariables false
set_option linter.unusedSimpArgs false
structure MmTo (l : List Pr) (k : Nat) : Prop where
  each : ∀ p ∈ l.take k, p.i < 16 ∧ 0 < p.k
  ids : ((l.take k).map Pr.i).Nodup
theorem MmTo.start (l : List Pr) : MmTo l 0 := ⟨fun p h => by simp at h, by simp⟩
def IdNo (l : List Pr) (i k : Nat) : Prop := ∀ q ∈ l.take k, q.i ≠ i
theorem IdNo.start (l : List Pr) (i : Nat) : IdNo l i 0 := fun p h => by simp at h
theorem IdNo.step {l : List Pr} {i k : Nat} (h : IdNo l i k) (hk : k < l.length) (hn : l[k].i ≠ i) : IdNo l i (k + 1) := by
  unfold IdNo at *
  rw [List.take_succ_eq_append_getElem hk]
  intro q hq
  rw [List.mem_append, List.mem_singleton] at hq
  exact hq.elim (h q) (fun e => e ▸ hn)
theorem MmTo.step {l : List Pr} {k : Nat} (h : MmTo l k) (hk : k < l.length) (hm : mayP l[k] = true) (hn : IdNo l l[k].i k) : MmTo l (k + 1) := by
  refine ⟨fun p hp => ?_, ?_⟩
  · rw [List.take_succ_eq_append_getElem hk, List.mem_append, List.mem_singleton] at hp
    exact hp.elim (h.each p) (fun e => e ▸ (mayP_iff _).1 hm)
  · rw [List.take_succ_eq_append_getElem hk, List.map_append, List.nodup_append]
    refine ⟨h.ids, by simp, fun a ha b hb e => ?_⟩
    obtain ⟨q, hq, rfl⟩ := List.mem_map.1 ha
    simp at hb
    exact hn q hq (e.trans hb)
theorem MmTo.done {l : List Pr} {k : Nat} (h : MmTo l k) (hk : l.length ≤ k) (h1 : 1 ≤ l.length) (h2 : l.length ≤ 24) : MayMem l := by
  obtain ⟨e1, e2⟩ := h
  rw [List.take_of_length_le hk] at e1 e2
  exact ⟨h1, h2, e1, e2⟩
theorem MmTo.twice {l : List Pr} {i k : Nat} (hk : k < i) (hi : i < l.length) (he : l[k].i = l[i].i) : ¬ MayMem l := fun h => by
  have h1 : (l.map Pr.i)[k]'(by simp; omega) = (l.map Pr.i)[i]'(by simp; omega) := by simp [he]
  have := (List.getElem_inj h.ids).1 h1
  omega
def OnTo (l : List Pr) (lvs : List (List Pr)) (k : Nat) : Prop := ∀ p ∈ l.take k, lvs.flatten.count p = 1
theorem OnTo.start (l : List Pr) (lvs : List (List Pr)) : OnTo l lvs 0 := fun p h => by simp at h
theorem OnTo.step {l : List Pr} {lvs : List (List Pr)} {k : Nat} (h : OnTo l lvs k) (hk : k < l.length) (hn : lvs.flatten.count l[k] = 1) : OnTo l lvs (k + 1) := by
  unfold OnTo at *
  rw [List.take_succ_eq_append_getElem hk]
  intro q hq
  rw [List.mem_append, List.mem_singleton] at hq
  exact hq.elim (h q) (fun e => e ▸ hn)
theorem OnTo.done {l : List Pr} {lvs : List (List Pr)} {k : Nat} (h : OnTo l lvs k) (hk : l.length ≤ k) : ∀ p ∈ l, lvs.flatten.count p = 1 := by
  unfold OnTo at h
  rwa [List.take_of_length_le hk] at h
def CtTo (lvs : List (List Pr)) (p : Pr) (k n : Nat) : Prop := n = (lvs.take k).flatten.count p
theorem CtTo.start (lvs : List (List Pr)) (p : Pr) : CtTo lvs p 0 0 := by simp [CtTo]
theorem CtTo.done {lvs : List (List Pr)} {p : Pr} {k n : Nat} (h : CtTo lvs p k n) (hk : lvs.length ≤ k) : n = lvs.flatten.count p := by
  unfold CtTo at h
  rwa [List.take_of_length_le hk] at h
def CjTo (lvs : List (List Pr)) (l : List Pr) (p : Pr) (k j n : Nat) : Prop := n = (lvs.take k).flatten.count p + (l.take j).count p
theorem CtTo.in_ {lvs : List (List Pr)} {p : Pr} {k n : Nat} (h : CtTo lvs p k n) (l : List Pr) : CjTo lvs l p k 0 n := by unfold CjTo; rw [List.take_zero, h]; simp
theorem CjTo.out_ {lvs : List (List Pr)} {l : List Pr} {p : Pr} {k j n : Nat} (h : CjTo lvs l p k j n) (hk : k < lvs.length) (hl : lvs[k] = l) (hj : l.length ≤ j) : CtTo lvs p (k + 1) n := by
  unfold CjTo at h
  unfold CtTo
  rw [flatten_take hk, List.count_append, hl, h, List.take_of_length_le hj]
theorem CjTo.yes {lvs : List (List Pr)} {l : List Pr} {p : Pr} {k j n : Nat} (h : CjTo lvs l p k j n) (hj : j < l.length) (he : l[j] = p) : CjTo lvs l p k (j + 1) (n + 1) := by
  unfold CjTo at *
  rw [List.take_succ_eq_append_getElem hj, List.count_append, he, h]
  simp
  omega
theorem CjTo.no {lvs : List (List Pr)} {l : List Pr} {p : Pr} {k j n : Nat} (h : CjTo lvs l p k j n) (hj : j < l.length) (he : l[j] ≠ p) : CjTo lvs l p k (j + 1) n := by
  unfold CjTo at *
  rw [List.take_succ_eq_append_getElem hj, List.count_append, h]
  simp [he]
def LrTo (mem : List Pr) (lvs : List (List Pr)) (k : Nat) : Prop := ∀ l ∈ lvs.take k, l ≠ [] ∧ RiseP mem l
theorem LrTo.start (mem : List Pr) (lvs : List (List Pr)) : LrTo mem lvs 0 := fun p h => by simp at h
theorem LrTo.step {mem : List Pr} {lvs : List (List Pr)} {k : Nat} (h : LrTo mem lvs k) (hk : k < lvs.length) (h1 : lvs[k] ≠ []) (h2 : RiseP mem lvs[k]) : LrTo mem lvs (k + 1) := by
  unfold LrTo at *
  rw [List.take_succ_eq_append_getElem hk]
  intro q hq
  rw [List.mem_append, List.mem_singleton] at hq
  exact hq.elim (h q) (fun e => e ▸ ⟨h1, h2⟩)
theorem LrTo.done {mem : List Pr} {lvs : List (List Pr)} {k : Nat} (h : LrTo mem lvs k) (hk : lvs.length ≤ k) : ∀ l ∈ lvs, l ≠ [] ∧ RiseP mem l := by
  unfold LrTo at h
  rwa [List.take_of_length_le hk] at h
end Go.Proofs.YtjmkecaljkcoiaaDoor
namespace Go.Proofs.YtjmkecaljkcoiaaDoor
open Go.RowKit Go.Maps
set_option linter.unusedVariables false
set_option linter.unusedSimpArgs false
end Go.Proofs.YtjmkecaljkcoiaaDoor
namespace Go.Proofs.YtjmkecaljkcoiaaDoor
open Go.RowKit Go.Maps
set_option linter.unusedVariables false
set_option linter.unusedSimpArgs false
end Go.Proofs.YtjmkecaljkcoiaaDoor
namespace Go.Proofs.YtjmkecaljkcoiaaDoor
open Go.RowKit Go.Maps
set_option linter.unusedVariables false
set_option linter.unusedSimpArgs false
set_option maxRecDepth 100000 in
set_option maxHeartbeats 2000000 in
theorem rbeatform_any (x : Bx) (B : Nat) (w : World) (h : BxIn w B x) (hB : B ≤ w.heap.size) (hn : x.n ≤ 60) :
    Calls Tryd.prog 23 #[.agg #[.int .u64 (x.v : Int), .int .u64 (x.a : Int), .int .u64 (x.l : Int), .int .u64 (x.s : Int), .slice x.A x.n x.c]] w (MakesB w (formB x.m)) := by
  have hb1 : Below w.heap.size w (w.alloc (.cells #[.int .u64 (x.v : Int), .int .u64 (x.a : Int), .int .u64 (x.l : Int), .int .u64 (x.s : Int), .slice x.A x.n x.c] 52)) := (Below.refl _ _).alloc (Nat.le_refl _) _
  have v1 := BAt.mk_ w x
  have hlen := h.es.len
  have r0 := fun W => rnum7_any x.v W h.hv
  have r1 := fun W => rnum7_any x.a W h.ha
  have r2 := fun W => rnum7_any x.l W h.hl
  have r3 := fun W => rnum7_any x.s W h.hs
  have r4 := fun W (hW : Below w.heap.size w W) => rpids7_any x.A x.n x.c x.q B W (h.es.below (hW.mono hB)) (Nat.le_trans hB hW.size) (by omega)
  have p0 := (shortL_len x.v).2
  have p1 := (shortL_len x.a).2
  have p2 := (shortL_len x.l).2
  have p3 := (shortL_len x.s).2
  have p4 := (shortL_len x.n).2
  have p5 := pidsL_len x.q
  have hlp : (shortL x.n ++ pidsL x.q).length ≤ 10 + 20 * x.n := by rw [List.length_append]; omega
  have hf : formB x.m = shortL x.v ++ shortL x.a ++ shortL x.l ++ shortL x.s ++ (shortL x.n ++ pidsL x.q) := by unfold formB; rw [← hlen]; rfl
  have HF := hide hf
  clear h p4 p5 hf hlen
  obtain ⟨l0, hl0⟩ : ∃ l, l = shortL x.v := ⟨_, rfl⟩
  obtain ⟨l1, hl1⟩ : ∃ l, l = shortL x.a := ⟨_, rfl⟩
  obtain ⟨l2, hl2⟩ : ∃ l, l = shortL x.l := ⟨_, rfl⟩
  obtain ⟨l3, hl3⟩ : ∃ l, l = shortL x.s := ⟨_, rfl⟩
  obtain ⟨l4, hl4⟩ : ∃ l, l = shortL x.n ++ pidsL x.q := ⟨_, rfl⟩
  rw [← hl0, ← hl1, ← hl2, ← hl3, ← hl4] at HF
  rw [← hl0] at r0 p0
  rw [← hl1] at r1 p1
  rw [← hl2] at r2 p2
  rw [← hl3] at r3 p3
  rw [← hl4] at r4 hlp
  clear hl0 hl1 hl2 hl3 hl4
  have hs1' := hb1.size
  go_enter Tryd.func23, Tryd.ntmps23
  generalize hw1 : w.alloc (.cells #[.int .u64 (x.v : Int), .int .u64 (x.a : Int), .int .u64 (x.l : Int), .int .u64 (x.s : Int), .slice x.A x.n x.c] 52) = w1 at *
  obtain ⟨k0, k1, k2, k3, k4⟩ := v1.cells
  have g1 := v1.lt
  go_wp2_with fail
  go_region_held3 (fun w' => w'.cell? ⟨w.heap.size, 0, none⟩ = some (.int .u64 (x.v : Int)) ∧ w'.cell? ⟨w.heap.size, 1, none⟩ = some (.int .u64 (x.a : Int)))
    (first | exact ⟨k0, k1⟩ | exact ⟨(hq2.cell g1).trans k0, (hq2.cell g1).trans k1⟩ | exact ⟨(hq3.cell g1).trans k0, (hq3.cell g1).trans k1⟩ | exact ⟨(hq4.cell g1).trans k0, (hq4.cell g1).trans k1⟩)
    (first | ((with_reducible refine (r0 _).mono ?_); rintro e w2 ⟨A2, c2, rfl, ho2, hb2⟩; have hq2 : Below w1.heap.size w1 w2 := Below.trans ((Below.refl _ _).drew) hb2) | ((with_reducible refine (r1 _).mono ?_); rintro e w3 ⟨A3, c3, rfl, ho3, hb3⟩; have hq3 : Below w1.heap.size w1 w3 := hq2.trans (hb3.mono hq2.size)) | (refine step_bytes_own _ rfl (.tmp 6) (.tmp 9) rfl w1.heap.size l0.length _ l0 (by simp [Act.eval, Act.put]) (ho2.later hb3) _ A3 l1.length c3 l1 (by simp [Act.eval, Act.put]) ho3.bs (by omega) w1.heap.size w1 hq3 (Nat.le_refl _) hq3.size ?_; intro A4 c4 w4 ho4 hq4 _))
  have v4 := v1.later hq4
  have s4 := hq4.size
  have q4 := ho4
  clear k0 k1 k2 k3 k4 ho2 ho3 hb2 hb3 hq2 hq3 r0 r1 ho4
  obtain ⟨k0, k1, k2, k3, k4⟩ := v4.cells
  go_wp2_with fail
  refine (r2 _).mono ?_
  rintro e w5 ⟨A5, c5, rfl, ho5, hb5⟩
  have ho4' := q4.later hb5
  have hq5 := hq4.trans (hb5.mono s4)
  have s5 := hq5.size
  have hbs := ho5.bs
  clear k0 k1 k2 k3 k4 ho5 q4 v4 hb5 hq4 s4 r2
  go_wp2_with (at_builtin; refine wp_bytes_own _ rfl (.tmp 11) (.tmp 14) rfl w1.heap.size _ _ (l0 ++ l1) rfl ho4' _ A5 l2.length c5 l2 rfl hbs (by omega) w1.heap.size w1 hq5 (Nat.le_refl _) s5 ?_)
  intro A6 c6 w6 ho6 hq6 s6
  have v6 := v1.later hq6
  clear ho4' hq5 hbs s5
  obtain ⟨k0, k1, k2, k3, k4⟩ := v6.cells
  go_wp2_with fail
  refine (r3 _).mono ?_
  rintro e w7 ⟨A7, c7, rfl, ho7, hb7⟩
  have ho6' := ho6.later hb7
  have hq7 := hq6.trans (hb7.mono hq6.size)
  have s7 := hq7.size
  have hbs := ho7.bs
  clear k0 k1 k2 k3 k4 ho7 v6 hb7 hq6 s6 r3 ho6
  go_wp2_with (at_builtin; refine wp_bytes_own _ rfl (.tmp 16) (.tmp 19) rfl w1.heap.size _ _ _ rfl ho6' _ A7 l3.length c7 l3 rfl hbs (by omega) w1.heap.size w1 hq7 (Nat.le_refl _) s7 ?_)
  intro A8 c8 w8 ho8 hq8 s8
  have v8 := v1.later hq8
  have hbw := hb1.trans (hq8.mono hs1')
  clear ho6' hq7 hbs s7
  obtain ⟨k0, k1, k2, k3, k4⟩ := v8.cells
  go_wp2_with fail
  refine (r4 _ hbw).mono ?_
  rintro e w9 ⟨A9, c9, rfl, ho9, hb9⟩
  have ho8' := ho8.later hb9
  have hq9 := hq8.trans (hb9.mono hq8.size)
  have s9 := hq9.size
  have hbs := ho9.bs
  clear k0 k1 k2 k3 k4 ho9 v8 hb9 hq8 s8 r4 ho8 hbw
  go_wp2_with (at_builtin; refine wp_bytes_own _ rfl (.tmp 21) (.tmp 24) rfl w1.heap.size _ _ _ rfl ho8' _ A9 l4.length c9 l4 rfl hbs (by omega) w1.heap.size w1 hq9 (Nat.le_refl _) s9 ?_)
  intro A10 c10 w10 ho10 hq10 s10
  have hfa := HF.out
  simp only [List.append_assoc] at ho10 hfa
  rw [← hfa] at ho10
  have hml := ho10.len
  have HM := Lib.hid (⟨A10, c10, by rw [hml], hml ▸ ho10.mono hs1', hb1.trans (hq10.mono hs1')⟩ : MakesB w (formB x.m) (.returned (.slice A10 (l0.length + l1.length + l2.length + l3.length + l4.length) c10)) w10)
  clear hml ho10 ho8' hbs
  go_wp2
  go_ret
  exact HM.out
end Go.Proofs.YtjmkecaljkcoiaaDoor
