import Derived.Test.YtjmkecaljkcoiaaGreatDoorQMask4
import Derived.Test.YtjmkecaljkcoiaaGreatDoorQFlow
import Derived.StillTailTactics
import Derived.Test.YtjmkecaljkcoiaaGreatDoorQView5
namespace Go.Proofs.YtjmkecaljkcoiaaGreatDoor
open Go.RowKit Go.Maps
set_option linter.unusedVariables false
set_option linter.unusedSimpArgs false
end Go.Proofs.YtjmkecaljkcoiaaGreatDoor
namespace Go.Proofs.YtjmkecaljkcoiaaGreatDoor
open Go.RowKit Go.Maps
set_option linter.unusedVariables false
set_option linter.unusedSimpArgs false
def SetsTo (w : World) (b : Nat) (mg : Option Nat) (acc : List Pr) (w' : World) : Prop := ∃ mg', SetAt w' b mg' acc ∧ Turn w w' b mg ∧ Mov w mg mg'
theorem heap_setCell_at {w : World} {b : Nat} {u v : Value} {T : TypeId} (h : w.heap[b]? = some (.cells #[u] T (0, 0))) : (w.setCell ⟨b, 0, none⟩ v).heap[b]? = some (.cells #[v] T (0, 0)) := by
  simp [World.setCell, Array.getElem?_modify, h]
def AddsTo (w : World) (b : Nat) (mg : Option Nat) (acc : List Pr) (p : Pr) (e : Ending) (w' : World) : Prop := e = .returned (.bool (!decide (p ∈ acc))) ∧ SetsTo w b mg (dedS acc p) w'
def DropsTo (w : World) (b : Nat) (mg : Option Nat) (acc : List Pr) (p : Pr) (e : Ending) (w' : World) : Prop := e = .returned (.bool (decide (p ∈ acc))) ∧ SetsTo w b mg (acc.filter fun x => decide (x ≠ p)) w'
end Go.Proofs.YtjmkecaljkcoiaaGreatDoor
namespace Go.Proofs.YtjmkecaljkcoiaaGreatDoor
open Go.RowKit Go.Maps
set_option linter.unusedVariables false
set_option linter.unusedSimpArgs false
def UniTo (l : List Pr) (acc : List Pr) (k : Nat) (acc' : List Pr) : Prop := acc' = (l.take k).foldl dedS acc
theorem UniTo.start (l acc : List Pr) : UniTo l acc 0 acc := by simp [UniTo]
theorem UniTo.step {l acc acc' : List Pr} {k : Nat} (h : UniTo l acc k acc') (hk : k < l.length) : UniTo l acc (k + 1) (dedS acc' l[k]) := by
  unfold UniTo at *
  rw [List.take_succ_eq_append_getElem hk, List.foldl_append, List.foldl_cons, List.foldl_nil, ← h]
theorem UniTo.done {l acc acc' : List Pr} {k : Nat} (h : UniTo l acc k acc') (hk : l.length ≤ k) : acc' = l.foldl dedS acc := by
  unfold UniTo at h
  rwa [List.take_of_length_le hk] at h
def UnitesTo (w : World) (b : Nat) (mg : Option Nat) (acc l : List Pr) (e : Ending) (w' : World) : Prop :=
  ∃ q : Nat, e = .returned (.int .i64 q) ∧ (l.foldl dedS acc).length = acc.length + q ∧ SetsTo w b mg (l.foldl dedS acc) w'
def NewSet (w : World) (acc : List Pr) (e : Ending) (w' : World) : Prop :=
  ∃ b mg, e = .returned (.pointer (some ⟨b, 0, none⟩)) ∧ SetAt w' b mg acc ∧ w.heap.size ≤ b ∧ (∀ g, mg = some g → w.heap.size ≤ g) ∧ Below w.heap.size w w'
end Go.Proofs.YtjmkecaljkcoiaaGreatDoor
namespace Go.Proofs.YtjmkecaljkcoiaaGreatDoor
open Go.RowKit Go.Maps
set_option linter.unusedVariables false
set_option linter.unusedSimpArgs false
def FilTo (f : Pr → Bool) (l : List Pr) (k : Nat) (acc : List Pr) : Prop := acc = (l.take k).filter f
theorem FilTo.start (f : Pr → Bool) (l : List Pr) : FilTo f l 0 [] := by simp [FilTo]
theorem FilTo.yes {f : Pr → Bool} {l acc : List Pr} {k : Nat} (h : FilTo f l k acc) (hk : k < l.length) (hf : f l[k] = true) : FilTo f l (k + 1) (acc ++ [l[k]]) := by
  unfold FilTo at *
  rw [List.take_succ_eq_append_getElem hk, List.filter_append, ← h]
  simp [hf]
theorem FilTo.no {f : Pr → Bool} {l acc : List Pr} {k : Nat} (h : FilTo f l k acc) (hk : k < l.length) (hf : f l[k] = false) : FilTo f l (k + 1) acc := by
  unfold FilTo at *
  rw [List.take_succ_eq_append_getElem hk, List.filter_append, ← h]
  simp [hf]
theorem FilTo.done {f : Pr → Bool} {l acc : List Pr} {k : Nat} (h : FilTo f l k acc) (hk : l.length ≤ k) : acc = l.filter f := by
  unfold FilTo at h
  rwa [List.take_of_length_le hk] at h
end Go.Proofs.YtjmkecaljkcoiaaGreatDoor
namespace Go.Proofs.YtjmkecaljkcoiaaGreatDoor
open Go.RowKit Go.Maps
set_option linter.unusedVariables false
set_option linter.unusedSimpArgs false
def ckI (t : Bool) : Int := if t then 0 else 1
theorem ckI_yes {t : Bool} (h : t = true) : ckI t = 0 := by rw [h]; rfl
theorem ckI_no {t : Bool} (h : t = false) : ckI t = 1 := by rw [h]; rfl
set_option maxRecDepth 100000 in
theorem check_any (x : Vw) (B : Nat) (w : World) (t : Bool) (h : VwIn w B x) (hs : VSmall x) (hB : B ≤ w.heap.size) (ht : t = true ↔ MayV x.v) :
    Calls Tryz.prog 26 #[.agg #[.int .u64 x.id, .slice x.A x.m x.c, .slice x.B x.d x.e, .slice x.C x.f x.g]] w fun e w' => e = .returned (.int .i64 (ckI t)) ∧ Below w.heap.size w w' := by
  obtain ⟨id, A, m, c, l, B', d, e, q, C, f, g, r⟩ := x
  have hbz : Below w.heap.size w (w.alloc (.cells #[.int .u64 id, .slice A m c, .slice B' d e, .slice C f g] 26)) := (Below.refl _ _).alloc (Nat.le_refl _) _
  obtain ⟨hs1, hs2, hs3, hs4⟩ := hs
  obtain ⟨i1, i2, i3, i4, i5, i6, i7, i8, i9, i10, i11⟩ := h
  simp only [Vw.v] at ht
  dsimp only at *
  have hlen := i2.len
  have hlen3 := i9.len
  have HT := hide ht
  clear ht
  by_cases h1 : id < 1
  · have hf := ckI_no (not_of_iff HT.out (fun h => by have := h.lo; dsimp only at this; omega))
    have z1 : decide ((id : Int) < 1) = true := decide_eq_true (by omega)
    have HF := hide hf
    clear hf
    go_enter Tryz.func26, Tryz.ntmps26
    go_wp2
    go_ret
    exact ⟨ret_int HF.out.symm, hbz⟩
  have z1 : decide ((id : Int) < 1) = false := decide_eq_false (by omega)
  by_cases h2 : 4611686018427387904 < id
  · have hf := ckI_no (not_of_iff HT.out (fun h => by have := h.hi; dsimp only at this; omega))
    have z2 : decide ((4611686018427387904 : Int) < (id : Int)) = true := decide_eq_true (by omega)
    have HF := hide hf
    clear hf
    go_enter Tryz.func26, Tryz.ntmps26
    go_wp2
    go_ret
    exact ⟨ret_int HF.out.symm, hbz⟩
  have z2 : decide ((4611686018427387904 : Int) < (id : Int)) = false := decide_eq_false (by omega)
  have hlo : 1 ≤ id := by omega
  have hhi : id ≤ 4611686018427387904 := by omega
  clear h1 h2
  obtain ⟨tm, htm⟩ := bool_of (MayMem l)
  have cm := mbm_any A m c l B (w.alloc (.cells #[.int .u64 id, .slice A m c, .slice B' d e, .slice C f g] 26)) tm (i2.alloc hB _) (by simp; omega) (Nat.le_trans i3 i4) htm
  cases tm
  · have hf := ckI_no (not_of_iff HT.out (fun h => by have := htm.2 h.mem; cases this))
    have HF := hide hf
    clear hf htm
    go_enter Tryz.func26, Tryz.ntmps26
    go_wp2_with fail
    refine cm.mono ?_
    rintro e w1 ⟨rfl, hb1⟩
    have hb2 := hbz.trans (hb1.mono hbz.size)
    go_wp2
    go_ret
    exact ⟨ret_int HF.out.symm, hb2⟩
  have hmm := htm.1 rfl
  clear htm
  have hl24 := hmm.most
  have hnd := hmm.nodup
  go_enter Tryz.func26, Tryz.ntmps26
  go_wp2_with fail
  refine cm.mono ?_
  rintro e w1 ⟨rfl, hb1⟩
  have hb2 := hbz.trans (hb1.mono hbz.size)
  have k0 : (w.alloc (.cells #[.int .u64 id, .slice A m c, .slice B' d e, .slice C f g] 26)).cell? ⟨w.heap.size, 0, none⟩ = some (.int .u64 id) := by go_simp
  have k1 : (w.alloc (.cells #[.int .u64 id, .slice A m c, .slice B' d e, .slice C f g] 26)).cell? ⟨w.heap.size, 1, none⟩ = some (.slice A m c) := by go_simp
  have k2 : (w.alloc (.cells #[.int .u64 id, .slice A m c, .slice B' d e, .slice C f g] 26)).cell? ⟨w.heap.size, 2, none⟩ = some (.slice B' d e) := by go_simp
  have k3 : (w.alloc (.cells #[.int .u64 id, .slice A m c, .slice B' d e, .slice C f g] 26)).cell? ⟨w.heap.size, 3, none⟩ = some (.slice C f g) := by go_simp
  replace k0 := cellL k0 hb1
  replace k1 := cellL k1 hb1
  replace k2 := cellL k2 hb1
  replace k3 := cellL k3 hb1
  have cr := ranksOf_any A m c l B w1 (i2.below (hb2.mono hB)) (Nat.le_trans hB hb2.size) (by omega)
  clear hbz hb1 cm z1 z2
  go_wp2_with fail
  refine cr.mono ?_
  rintro e w2 ⟨b, rfl, hpl, hbb, hbl, hb1⟩
  have hb3 := hb2.trans (hb1.mono hb2.size)
  replace k0 := cellL k0 hb1
  replace k1 := cellL k1 hb1
  replace k2 := cellL k2 hb1
  replace k3 := cellL k3 hb1
  obtain ⟨tl, htl⟩ := bool_of (LeavesP l (q.map Lf.l))
  have hbB := hb3.mono hB
  have cl := mbl_any b l.length l B' d e q B w2 tl hpl (i5.below hbB) (fun y hy => ⟨(i8 y hy).below hbB, hs4 y hy⟩) (Nat.le_trans hB hb3.size) hs2 hnd (by omega) htl
  clear hb2 hb1 cr
  cases tl
  · have hf := ckI_no (not_of_iff HT.out (fun h => by have := htl.2 h.lvs; cases this))
    have HF := hide hf
    clear hf htl
    go_wp2_with fail
    refine cl.mono ?_
    rintro e w3 ⟨rfl, hb1⟩
    have hb4 := hb3.trans (hb1.mono hb3.size)
    go_wp2
    go_ret
    exact ⟨ret_int HF.out.symm, hb4⟩
  have hlv := htl.1 rfl
  clear htl
  go_wp2_with fail
  refine cl.mono ?_
  rintro e w3 ⟨rfl, hb1⟩
  have hb4 := hb3.trans (hb1.mono hb3.size)
  replace k0 := cellL k0 hb1
  replace k1 := cellL k1 hb1
  replace k2 := cellL k2 hb1
  replace k3 := cellL k3 hb1
  have hp3 := hpl.later hb1
  clear hb1 hb3 cl hpl hbB
  by_cases hf0 : f = 0
  · have hf := ckI_no (not_of_iff HT.out (fun h => h.one (List.eq_nil_of_length_eq_zero (by rw [hlen3]; exact hf0))))
    have HF := hide hf
    have u1 : ((f : Int) == 0) = true := by rw [hf0]; rfl
    clear hf hf0
    go_wp2
    go_ret
    exact ⟨ret_int HF.out.symm, hb4⟩
  have u1 : ((f : Int) == 0) = false := by simp only [beq_eq_false_iff_ne, ne_eq]; omega
  have hne : r ≠ [] := fun e => by rw [e] at hlen3; simp at hlen3; omega
  obtain ⟨td, htd⟩ := bool_of (RiseP l r)
  have cd := rise_any b l.length l C f g r B w3 td hp3 (i9.below (hb4.mono hB)) (Nat.le_trans hB hb4.size) (by omega) htd
  cases td
  · have hf := ckI_no (not_of_iff HT.out (fun h => by have := htd.2 h.ldr; cases this))
    have HF := hide hf
    clear hf htd
    go_wp2_with fail
    refine cd.mono ?_
    rintro e w4 ⟨rfl, hb1⟩
    have hb5 := hb4.trans (hb1.mono hb4.size)
    go_wp2
    go_ret
    exact ⟨ret_int HF.out.symm, hb5⟩
  · have hf := ckI_yes (HT.out.2 ⟨hlo, hhi, hmm, hlv, hne, htd.1 rfl⟩)
    have HF := hide hf
    clear hf htd
    go_wp2_with fail
    refine cd.mono ?_
    rintro e w4 ⟨rfl, hb1⟩
    have hb5 := hb4.trans (hb1.mono hb4.size)
    go_wp2
    go_ret
    exact ⟨ret_int HF.out.symm, hb5⟩
def lfX : List (List Pr) → Pr → Nat
  | [], _ => 0
  | l :: r, p => if p ∈ l then 0 else lfX r p + 1
def lfI (lvs : List (List Pr)) (p : Pr) : Int := if p ∈ lvs.flatten then (lfX lvs p : Int) else -1
theorem lfX_new : ∀ (a : List (List Pr)) (l : List Pr) (b : List (List Pr)) (p : Pr), (∀ x ∈ a, p ∉ x) → p ∈ l → lfX (a ++ l :: b) p = a.length
  | [], l, b, p, _, h => by rw [List.nil_append, lfX, if_pos h]; rfl
  | x :: a, l, b, p, h, h' => by rw [List.cons_append, lfX, if_neg (h x (by simp)), lfX_new a l b p (fun y hy => h y (by simp [hy])) h', List.length_cons]
def NotL (p : Pr) (lvs : List (List Pr)) (j : Nat) : Prop := ∀ x ∈ lvs.take j, p ∉ x
theorem NotL.start (p : Pr) (lvs : List (List Pr)) : NotL p lvs 0 := fun x h => by simp at h
theorem NotL.step {p : Pr} {lvs : List (List Pr)} {j : Nat} (h : NotL p lvs j) (hj : j < lvs.length) (hp : p ∉ lvs[j]) : NotL p lvs (j + 1) := by
  unfold NotL at *
  rw [List.take_succ_eq_append_getElem hj]
  intro x hx
  rw [List.mem_append, List.mem_singleton] at hx
  exact hx.elim (h x) (fun e => e ▸ hp)
theorem NotL.hit {p : Pr} {lvs : List (List Pr)} {j : Nat} (h : NotL p lvs j) (hj : j < lvs.length) (hp : p ∈ lvs[j]) : lfI lvs p = (j : Int) := by
  have e : lvs = lvs.take j ++ lvs[j] :: lvs.drop (j + 1) := by rw [← List.drop_eq_getElem_cons hj, List.take_append_drop]
  have := lfX_new (lvs.take j) lvs[j] (lvs.drop (j + 1)) p h hp
  rw [← e, List.length_take, Nat.min_eq_left (by omega)] at this
  unfold lfI
  rw [if_pos (List.mem_flatten.2 ⟨lvs[j], List.getElem_mem hj, hp⟩), this]
theorem NotL.out_ {p : Pr} {lvs : List (List Pr)} {j : Nat} (h : NotL p lvs j) (hj : lvs.length ≤ j) : lfI lvs p = -1 := by
  unfold NotL at h
  rw [List.take_of_length_le hj] at h
  unfold lfI
  rw [if_neg]
  intro hm
  obtain ⟨x, hx, hp⟩ := List.mem_flatten.1 hm
  exact h x hx hp
end Go.Proofs.YtjmkecaljkcoiaaGreatDoor
namespace Go.Proofs.YtjmkecaljkcoiaaGreatDoor
open Go.RowKit Go.Maps
set_option linter.unusedVariables false
set_option linter.unusedSimpArgs false
theorem es_block {α : Type} {enc : α → List Value} {w : World} {b : Nat} {cs : Array Value} {T : TypeId} {fz : Nat × Nat} {l : List α} (h : w.heap[b]? = some (.cells cs T fz)) (he : cs.toList = ec enc l) {n : Nat} (hn : l.length = n) : Es enc w (b + 1) (some ⟨b, 0, none⟩) n l := by
  refine ⟨hn, fun _ => ⟨_, rfl, Nat.lt_succ_self _, fun j v hv => ?_⟩⟩
  have hadd : (⟨b, 0, none⟩ : Addr).add j = ⟨b, j, none⟩ := by unfold Addr.add; split <;> simp_all
  rw [hadd, cell_of_row _ _ j _ _ _ h]
  rw [← he] at hv
  simpa using hv
def q11 : Pr := ⟨1, 1, by decide, by decide⟩
def q21 : Pr := ⟨2, 1, by decide, by decide⟩
def q31 : Pr := ⟨3, 1, by decide, by decide⟩
def q91 : Pr := ⟨9, 1, by decide, by decide⟩
def smallV : Vi := ⟨1, [q11, q21, q31], [[q11, q31], [q21]], [q11, q21]⟩
def allocs (w : World) : List Obj → World
  | [] => w
  | o :: os => allocs (w.alloc o) os
def SmallP (w : World) (e : Ending) (w' : World) : Prop := ∃ x : Vw, e = .returned (.agg #[.int .u64 x.id, .slice x.A x.m x.c, .slice x.B x.d x.e, .slice x.C x.f x.g]) ∧ VwIn w' w'.heap.size x ∧ VSmall x ∧ x.v = smallV ∧ Below w.heap.size w w'
def smallX (a : Nat) : Vw := ⟨1, some ⟨a + 4, 0, none⟩, 3, 3, [q11, q21, q31], some ⟨a + 7, 0, none⟩, 2, 2, [⟨some ⟨a + 5, 0, none⟩, 2, 2, [q11, q31]⟩, ⟨some ⟨a + 6, 0, none⟩, 1, 1, [q21]⟩], some ⟨a + 8, 0, none⟩, 2, 2, [q11, q21]⟩
def smallO (a : Nat) : List Obj := [.cells #[.int .u64 1, .slice (some ⟨a + 4, 0, none⟩) 3 3, .slice (some ⟨a + 7, 0, none⟩) 2 2, .slice (some ⟨a + 8, 0, none⟩) 2 2] 26,
  .cells #[.int .u16 1, .int .u32 1] 44, .cells #[.int .u16 2, .int .u32 1] 44, .cells #[.int .u16 3, .int .u32 1] 44,
  .cells #[.int .u16 1, .int .u32 1, .int .u16 2, .int .u32 1, .int .u16 3, .int .u32 1] 44, .cells #[.int .u16 1, .int .u32 1, .int .u16 3, .int .u32 1] 44, .cells #[.int .u16 2, .int .u32 1] 44,
  .cells #[.slice (some ⟨a + 5, 0, none⟩) 2 2, .slice (some ⟨a + 6, 0, none⟩) 1 1] 23, .cells #[.int .u16 1, .int .u32 1, .int .u16 2, .int .u32 1] 44]
end Go.Proofs.YtjmkecaljkcoiaaGreatDoor
namespace Go.Proofs.YtjmkecaljkcoiaaGreatDoor
open Go.RowKit Go.Maps
set_option linter.unusedVariables false
set_option linter.unusedSimpArgs false
def EsV {α : Type} (enc : α → List Value) (n : Nat) (l : List α) (v : Value) (w : World) : Prop := ∃ A c B, v = .slice A n c ∧ Es enc w B A n l ∧ B ≤ w.heap.size
end Go.Proofs.YtjmkecaljkcoiaaGreatDoor
namespace Go.Proofs.YtjmkecaljkcoiaaGreatDoor
open Go.RowKit Go.Maps
set_option linter.unusedVariables false
theorem VAt.mk_ (w : World) (x : Vw) : VAt (w.alloc (.cells #[.int .u64 x.id, .slice x.A x.m x.c, .slice x.B x.d x.e, .slice x.C x.f x.g] 26)) w.heap.size x := heap_alloc_new w _
theorem VAt.lt {w : World} {b : Nat} {x : Vw} (h : VAt w b x) : b < w.heap.size := (Array.getElem?_eq_some_iff.1 h).1
theorem VAt.later {w w' : World} {b : Nat} {x : Vw} (h : VAt w b x) (hb : Below w.heap.size w w') : VAt w' b x := (hb.block b h.lt).trans h
theorem VAt.alloc {w : World} {b : Nat} {x : Vw} (h : VAt w b x) (o : Obj) : VAt (w.alloc o) b x := h.later ((Below.refl _ _).alloc (Nat.le_refl _) o)
theorem VAt.cells {w : World} {b : Nat} {x : Vw} (h : VAt w b x) : w.cell? ⟨b, 0, none⟩ = some (.int .u64 x.id) ∧ w.cell? ⟨b, 1, none⟩ = some (.slice x.A x.m x.c) ∧ w.cell? ⟨b, 2, none⟩ = some (.slice x.B x.d x.e) ∧ w.cell? ⟨b, 3, none⟩ = some (.slice x.C x.f x.g) :=
  ⟨cell_of_row w b 0 _ _ (0, 0) h, cell_of_row w b 1 _ _ (0, 0) h, cell_of_row w b 2 _ _ (0, 0) h, cell_of_row w b 3 _ _ (0, 0) h⟩
end Go.Proofs.YtjmkecaljkcoiaaGreatDoor
namespace Go.Proofs.YtjmkecaljkcoiaaGreatDoor
open Go.RowKit Go.Maps
set_option linter.unusedVariables false
set_option linter.unusedSimpArgs false
set_option maxRecDepth 100000 in
theorem sequal_any (A A' : Option Addr) (n m c c' : Nat) (l l' : List Pr) (B B' : Nat) (w : World) (hA : Es prC w B A n l) (hA' : Es prC w B' A' m l') (hn : n ≤ maxLen) (hm : m ≤ maxLen) :
    Calls Tryz.prog 213 #[.slice A n c, .slice A' m c'] w fun e w' => e = .returned (.bool (decide (l = l'))) ∧ Drawn w w' := by
  unfold maxLen at hn hm
  have hlen := hA.len
  have hlen' := hA'.len
  obtain ⟨r, hr⟩ : ∃ r, r = decide (l = l') := ⟨_, rfl⟩
  rw [← hr]
  by_cases hnm : n = m
  · subst hnm
    have HL := hide hlen
    have HL' := hide hlen'
    have HR := hide hr
    clear hlen hlen' hr
    have h0 : SameTo l l' 0 := by simp [SameTo]
    go_enter Tryz.func213, Tryz.ntmps213
    go_wp2
    go_loopw [13] (fun i wr => ∃ j : Nat, j ≤ n ∧ i = .int .i64 j ∧ SameTo l l' j ∧ Drawn w wr) (fun i _ => n - (intOf i).toNat)
    case atStart => exact ⟨0, Nat.zero_le _, rfl, h0, Drawn.refl _⟩
    case round =>
      obtain ⟨j, hj, rfl, hsame, hd⟩ := hrel
      obtain ⟨n0, rfl⟩ := hd
      by_cases hlt : j < n
      · obtain ⟨ad, hl, rfl, hbl, hc⟩ := hA.at_ prOk hlt
        obtain ⟨ad', hl', rfl, hbl', hc'⟩ := hA'.at_ prOk hlt
        obtain ⟨q, hq⟩ : ∃ q, q = l[j] := ⟨_, rfl⟩
        obtain ⟨p, hp⟩ : ∃ p, p = l'[j] := ⟨_, rfl⟩
        rw [← hq] at hc
        rw [← hp] at hc'
        obtain ⟨c0, c1⟩ := pr_at hc
        obtain ⟨d0, d1⟩ := pr_at hc'
        have HQ := hide hq
        have HP := hide hp
        clear hc hq hc' hp
        have z1 : (0 : Int) ≤ (j : Int) := by omega
        have z2 : (j : Int) < (n : Int) := by omega
        by_cases hqi : q.i = p.i
        · by_cases hqk : q.k = p.k
          · have hst := hsame.step hl hl' (by rw [← HQ.out, ← HP.out]; exact Pr.ext hqi hqk)
            rw [hqi] at c0
            rw [hqk] at c1
            clear hqi hqk
            go_wp2_with fail
            go_quiet (fail)
            go_wp2
            go_roundw
            case rel => exact ⟨j + 1, by omega, by go_num, hst, (by first | exact drawn_one _ _ | exact drawn_two _ _ _)⟩
            case measure => simp [intOf]; omega
          · have hf : decide (l = l') = false := decide_eq_false (fun e => hqk (by rw [HQ.out, HP.out]; subst e; rfl))
            have HI := hide (HR.out.trans hf)
            have q3 : ¬ ((q.k : Int) = (p.k : Int)) := by omega
            rw [hqi] at c0
            clear hqi hqk hf
            go_wp2_with fail
            go_quiet (fail)
            go_wp2
            go_ret
            exact ⟨ret_bool HI.out.symm, (by first | exact drawn_one _ _ | exact drawn_two _ _ _)⟩
        · have hf : decide (l = l') = false := decide_eq_false (fun e => hqi (by rw [HQ.out, HP.out]; subst e; rfl))
          have HI := hide (HR.out.trans hf)
          have q3 : ¬ ((q.i : Int) = (p.i : Int)) := by omega
          clear hqi hf
          go_wp2_with fail
          go_quiet (fail)
          go_wp2
          go_ret
          exact ⟨ret_bool HI.out.symm, (by first | exact drawn_one _ _ | exact drawn_two _ _ _)⟩
      · have hf : decide (l = l') = true := decide_eq_true (hsame.done (by rw [HL.out]; omega) (by rw [HL'.out]; omega))
        have HI := hide (HR.out.trans hf)
        clear hf
        go_wp2
        go_ret
        exact ⟨ret_bool HI.out.symm, drawn_one _ _⟩
  · have hf : decide (l = l') = false := decide_eq_false (fun e => hnm (by rw [← hlen, ← hlen', e]))
    have HI := hide (hr.trans hf)
    have hne : ((n : Int) != (m : Int)) = true := by simp; omega
    clear hf hr hlen hlen'
    go_enter Tryz.func213, Tryz.ntmps213
    go_wp2
    go_ret
    exact ⟨ret_bool HI.out.symm, Drawn.refl _⟩
def SamL (l m : List (List Pr)) (j : Nat) : Prop := l.take j = m.take j
theorem SamL.start (l m : List (List Pr)) : SamL l m 0 := by simp [SamL]
theorem SamL.step {l m : List (List Pr)} {j : Nat} (h : SamL l m j) (h1 : j < l.length) (h2 : j < m.length) (he : l[j] = m[j]) : SamL l m (j + 1) := by
  unfold SamL at *
  rw [List.take_succ_eq_append_getElem h1, List.take_succ_eq_append_getElem h2, h, he]
theorem SamL.done {l m : List (List Pr)} {j : Nat} (h : SamL l m j) (h1 : l.length ≤ j) (h2 : m.length ≤ j) : l = m := by
  unfold SamL at h
  rwa [List.take_of_length_le h1, List.take_of_length_le h2] at h
set_option maxRecDepth 100000 in
theorem eqfunc_any (A A' : Option Addr) (n m c c' : Nat) (q q' : List Lf) (B B' : Nat) (w : World) (hA : Es lfC w B A n q) (hA' : Es lfC w B' A' m q') (hn : n ≤ maxLen) (hm : m ≤ maxLen) (h1 : ∀ y ∈ q, LfIn w B y) (h2 : ∀ y ∈ q', LfIn w B' y) (hB : B ≤ w.heap.size) (hB' : B' ≤ w.heap.size) :
    Calls Tryz.prog 214 #[.slice A n c, .slice A' m c', .func (.func 213) #[] #[]] w fun e w' => e = .returned (.bool (decide (q.map Lf.l = q'.map Lf.l))) ∧ Below w.heap.size w w' := by
  unfold maxLen at hn hm
  have hlen := hA.len
  have hlen' := hA'.len
  obtain ⟨r, hr⟩ : ∃ r, r = decide (q.map Lf.l = q'.map Lf.l) := ⟨_, rfl⟩
  rw [← hr]
  obtain ⟨lv, hlv⟩ : ∃ z, z = q.map Lf.l := ⟨_, rfl⟩
  obtain ⟨lv', hlv'⟩ : ∃ z, z = q'.map Lf.l := ⟨_, rfl⟩
  rw [← hlv, ← hlv'] at hr
  have hl1 : lv.length = n := by rw [hlv, List.length_map, hlen]
  have hl2 : lv'.length = m := by rw [hlv', List.length_map, hlen']
  have hat : ∀ k (h1 : k < q.length) (h2 : k < lv.length), lv[k] = q[k].l := fun k h1 h2 => by simp [hlv]
  have hat' : ∀ k (h1 : k < q'.length) (h2 : k < lv'.length), lv'[k] = q'[k].l := fun k h1 h2 => by simp [hlv']
  by_cases hnm : n = m
  · subst hnm
    have HL := hide (And.intro hl1 (And.intro hl2 (And.intro hlen hlen')))
    have HAT := hide (And.intro hat hat')
    have HIN := hide (And.intro h1 h2)
    have HR := hide hr
    clear hlen hlen' hr hl1 hl2 hat hat' h1 h2 hlv hlv'
    have h0 := SamL.start lv lv'
    go_enter Tryz.func214, Tryz.ntmps214
    go_wp2
    go_loopw [17] (fun i wr => ∃ j : Nat, j ≤ n ∧ i = .int .i64 j ∧ SamL lv lv' j ∧ Below w.heap.size w wr) (fun i _ => n - (intOf i).toNat)
    case atStart => exact ⟨0, Nat.zero_le _, rfl, h0, Below.refl _ _⟩
    case round =>
      obtain ⟨j, hj, rfl, hsame, hb⟩ := hrel
      clear h0
      by_cases hlt : j < n
      · obtain ⟨ad, hl, rfl, hbl, hc⟩ := (hA.below (hb.mono hB)).at_ lfOk hlt
        obtain ⟨ad', hl', rfl, hbl', hc'⟩ := (hA'.below (hb.mono hB')).at_ lfOk hlt
        have k1 : j < lv.length := by rw [HL.out.1]; exact hlt
        have k2 : j < lv'.length := by rw [HL.out.2.1]; exact hlt
        have hst := hsame.step k1 k2
        have e1 := HAT.out.1 j hl k1
        have e2 := HAT.out.2 j hl' k2
        have hne : lv[j] ≠ lv'[j] → r = false := fun h => by rw [HR.out]; exact decide_eq_false fun e => h (by subst e; rfl)
        have y1 := HIN.out.1 q[j] (List.getElem_mem hl)
        have y2 := HIN.out.2 q'[j] (List.getElem_mem hl')
        rw [e1, e2] at hst hne
        obtain ⟨z, hz⟩ : ∃ z, z = q[j] := ⟨_, rfl⟩
        obtain ⟨z', hz'⟩ : ∃ z, z = q'[j] := ⟨_, rfl⟩
        rw [← hz] at hc hst hne y1
        rw [← hz'] at hc' hst hne y2
        have c0 := lf_at hc
        have d0 := lf_at hc'
        have ce := sequal_any z.A z'.A z.m z'.m z.c z'.c z.l z'.l B B' wr (y1.below (hb.mono hB)).es (y2.below (hb.mono hB')).es (Nat.le_trans y1.mc y1.room) (Nat.le_trans y2.mc y2.room)
        have z1 : (0 : Int) ≤ (j : Int) := by omega
        have z2 : (j : Int) < (n : Int) := by omega
        clear hz hz' e1 e2 hc hc' y1 y2 hsame
        obtain ⟨u, hu⟩ : ∃ u, u = decide (z.l = z'.l) := ⟨_, rfl⟩
        rw [← hu] at ce
        cases u
        · have hf := hne (of_decide_eq_false hu.symm)
          have HI := hide hf
          clear hf hst hne hu
          go_wp2_with fail
          refine ce.mono ?_
          rintro e w1 ⟨rfl, hd⟩
          have hb2 := hb.trans ((drawn_below hd).mono hb.size)
          go_wp2
          go_ret
          exact ⟨ret_bool HI.out.symm, hb2⟩
        · have hs := hst (of_decide_eq_true hu.symm)
          have HS := hide hs
          clear hs hst hne hu
          go_wp2_with fail
          refine ce.mono ?_
          rintro e w1 ⟨rfl, hd⟩
          have hb2 := hb.trans ((drawn_below hd).mono hb.size)
          go_wp2
          go_roundw
          case rel => exact ⟨j + 1, by omega, by go_num, HS.out, hb2⟩
          case measure => simp [intOf]; omega
      · have hf : r = true := by rw [HR.out]; exact decide_eq_true (hsame.done (by rw [HL.out.1]; omega) (by rw [HL.out.2.1]; omega))
        have HI := hide hf
        clear hf
        go_wp2
        go_ret
        exact ⟨ret_bool HI.out.symm, hb⟩
  · have hf : r = false := by rw [hr]; exact decide_eq_false (fun e => hnm (by rw [← hl1, ← hl2, e]))
    have HI := hide hf
    have hne : ((n : Int) != (m : Int)) = true := by simp; omega
    clear hf hr hlen hlen' hl1 hl2
    go_enter Tryz.func214, Tryz.ntmps214
    go_wp2
    go_ret
    exact ⟨ret_bool HI.out.symm, Below.refl _ _⟩
theorem Vi.ext' {a b : Vi} (h1 : a.id = b.id) (h2 : a.mem = b.mem) (h3 : a.lvs = b.lvs) (h4 : a.ldr = b.ldr) : a = b := by
  cases a; cases b; simp only at h1 h2 h3 h4; subst h1; subst h2; subst h3; subst h4; rfl
end Go.Proofs.YtjmkecaljkcoiaaGreatDoor
