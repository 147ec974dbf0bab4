import Derived.Test.YtjmkecaljkcoiaaGreatDoorQMask4
import Derived.Test.YtjmkecaljkcoiaaGreatDoorQFlow
import Derived.StillTailTactics
import Derived.Test.YtjmkecaljkcoiaaGreatDoorQView5
namespace Go.Proofs.YtjmkecaljkcoiaaGreatDoor
open Go.RowKit Go.Maps
set_option linter.unusedVariables false
set_option linter.unusedSimpArgs false
end Go.Proofs.YtjmkecaljkcoiaaGreatDoor
namespace Go.Proofs.YtjmkecaljkcoiaaGreatDoor
open Go.RowKit Go.Maps
set_option linter.unusedVariables false
set_option linter.unusedSimpArgs false
def SetsTo (w : World) (b : Nat) (mg : Option Nat) (acc : List Pr) (w' : World) : Prop := ∃ mg', SetAt w' b mg' acc ∧ Turn w w' b mg ∧ Mov w mg mg'
theorem heap_setCell_at {w : World} {b : Nat} {u v : Value} {T : TypeId} (h : w.heap[b]? = some (.cells #[u] T (0, 0))) : (w.setCell ⟨b, 0, none⟩ v).heap[b]? = some (.cells #[v] T (0, 0)) := by
  simp [World.setCell, Array.getElem?_modify, h]
def AddsTo (w : World) (b : Nat) (mg : Option Nat) (acc : List Pr) (p : Pr) (e : Ending) (w' : World) : Prop := e = .returned (.bool (!decide (p ∈ acc))) ∧ SetsTo w b mg (dedS acc p) w'
def DropsTo (w : World) (b : Nat) (mg : Option Nat) (acc : List Pr) (p : Pr) (e : Ending) (w' : World) : Prop := e = .returned (.bool (decide (p ∈ acc))) ∧ SetsTo w b mg (acc.filter fun x => decide (x ≠ p)) w'
end Go.Proofs.YtjmkecaljkcoiaaGreatDoor
namespace Go.Proofs.YtjmkecaljkcoiaaGreatDoor
open Go.RowKit Go.Maps
set_option linter.unusedVariables false
set_option linter.unusedSimpArgs false
def UniTo (l : List Pr) (acc : List Pr) (k : Nat) (acc' : List Pr) : Prop := acc' = (l.take k).foldl dedS acc
theorem UniTo.start (l acc : List Pr) : UniTo l acc 0 acc := by simp [UniTo]
theorem UniTo.step {l acc acc' : List Pr} {k : Nat} (h : UniTo l acc k acc') (hk : k < l.length) : UniTo l acc (k + 1) (dedS acc' l[k]) := by
  unfold UniTo at *
  rw [List.take_succ_eq_append_getElem hk, List.foldl_append, List.foldl_cons, List.foldl_nil, ← h]
theorem UniTo.done {l acc acc' : List Pr} {k : Nat} (h : UniTo l acc k acc') (hk : l.length ≤ k) : acc' = l.foldl dedS acc := by
  unfold UniTo at h
  rwa [List.take_of_length_le hk] at h
def UnitesTo (w : World) (b : Nat) (mg : Option Nat) (acc l : List Pr) (e : Ending) (w' : World) : Prop :=
  ∃ q : Nat, e = .returned (.int .i64 q) ∧ (l.foldl dedS acc).length = acc.length + q ∧ SetsTo w b mg (l.foldl dedS acc) w'
def NewSet (w : World) (acc : List Pr) (e : Ending) (w' : World) : Prop :=
  ∃ b mg, e = .returned (.pointer (some ⟨b, 0, none⟩)) ∧ SetAt w' b mg acc ∧ w.heap.size ≤ b ∧ (∀ g, mg = some g → w.heap.size ≤ g) ∧ Below w.heap.size w w'
end Go.Proofs.YtjmkecaljkcoiaaGreatDoor
namespace Go.Proofs.YtjmkecaljkcoiaaGreatDoor
open Go.RowKit Go.Maps
set_option linter.unusedVariables false
set_option linter.unusedSimpArgs false
def FilTo (f : Pr → Bool) (l : List Pr) (k : Nat) (acc : List Pr) : Prop := acc = (l.take k).filter f
theorem FilTo.start (f : Pr → Bool) (l : List Pr) : FilTo f l 0 [] := by simp [FilTo]
theorem FilTo.yes {f : Pr → Bool} {l acc : List Pr} {k : Nat} (h : FilTo f l k acc) (hk : k < l.length) (hf : f l[k] = true) : FilTo f l (k + 1) (acc ++ [l[k]]) := by
  unfold FilTo at *
  rw [List.take_succ_eq_append_getElem hk, List.filter_append, ← h]
  simp [hf]
theorem FilTo.no {f : Pr → Bool} {l acc : List Pr} {k : Nat} (h : FilTo f l k acc) (hk : k < l.length) (hf : f l[k] = false) : FilTo f l (k + 1) acc := by
  unfold FilTo at *
  rw [List.take_succ_eq_append_getElem hk, List.filter_append, ← h]
  simp [hf]
theorem FilTo.done {f : Pr → Bool} {l acc : List Pr} {k : Nat} (h : FilTo f l k acc) (hk : l.length ≤ k) : acc = l.filter f := by
  unfold FilTo at h
  rwa [List.take_of_length_le hk] at h
end Go.Proofs.YtjmkecaljkcoiaaGreatDoor
namespace Go.Proofs.YtjmkecaljkcoiaaGreatDoor
open Go.RowKit Go.Maps
set_option linter.unusedVariables false
set_option linter.unusedSimpArgs false
def ckI (t : Bool) : Int := if t then 0 else 1
theorem ckI_yes {t : Bool} (h : t = true) : ckI t = 0 := by rw [h]; rfl
theorem ckI_no {t : Bool} (h : t = false) : ckI t = 1 := by rw [h]; rfl
set_option maxRecDepth 100000 in
theorem check_any (x : Vw) (B : Nat) (w : World) (t : Bool) (h : VwIn w B x) (hs : VSmall x) (hB : B ≤ w.heap.size) (ht : t = true ↔ MayV x.v) :
    Calls Tryz.prog 26 #[.agg #[.int .u64 x.id, .slice x.A x.m x.c, .slice x.B x.d x.e, .slice x.C x.f x.g]] w fun e w' => e = .returned (.int .i64 (ckI t)) ∧ Below w.heap.size w w' := by
  obtain ⟨id, A, m, c, l, B', d, e, q, C, f, g, r⟩ := x
  have hbz : Below w.heap.size w (w.alloc (.cells #[.int .u64 id, .slice A m c, .slice B' d e, .slice C f g] 26)) := (Below.refl _ _).alloc (Nat.le_refl _) _
  obtain ⟨hs1, hs2, hs3, hs4⟩ := hs
  obtain ⟨i1, i2, i3, i4, i5, i6, i7, i8, i9, i10, i11⟩ := h
  simp only [Vw.v] at ht
  dsimp only at *
  have hlen := i2.len
  have hlen3 := i9.len
  have HT := hide ht
  clear ht
  by_cases h1 : id < 1
  · have hf := ckI_no (not_of_iff HT.out (fun h => by have := h.lo; dsimp only at this; omega))
    have z1 : decide ((id : Int) < 1) = true := decide_eq_true (by omega)
    have HF := hide hf
    clear hf
    go_enter Tryz.func26, Tryz.ntmps26
    go_wp2
    go_ret
    exact ⟨ret_int HF.out.symm, hbz⟩
  have z1 : decide ((id : Int) < 1) = false := decide_eq_false (by omega)
  by_cases h2 : 4611686018427387904 < id
  · have hf := ckI_no (not_of_iff HT.out (fun h => by have := h.hi; dsimp only at this; omega))
    have z2 : decide ((4611686018427387904 : Int) < (id : Int)) = true := decide_eq_true (by omega)
    have HF := hide hf
    clear hf
    go_enter Tryz.func26, Tryz.ntmps26
    go_wp2
    go_ret
    exact ⟨ret_int HF.out.symm, hbz⟩
  have z2 : decide ((4611686018427387904 : Int) < (id : Int)) = false := decide_eq_false (by omega)
  have hlo : 1 ≤ id := by omega
  have hhi : id ≤ 4611686018427387904 := by omega
  clear h1 h2
  obtain ⟨tm, htm⟩ := bool_of (MayMem l)
  have cm := mbm_any A m c l B (w.alloc (.cells #[.int .u64 id, .slice A m c, .slice B' d e, .slice C f g] 26)) tm (i2.alloc hB _) (by simp; omega) (Nat.le_trans i3 i4) htm
  cases tm
  · have hf := ckI_no (not_of_iff HT.out (fun h => by have := htm.2 h.mem; cases this))
    have HF := hide hf
    clear hf htm
    go_enter Tryz.func26, Tryz.ntmps26
    go_wp2_with fail
    refine cm.mono ?_
    rintro e w1 ⟨rfl, hb1⟩
    have hb2 := hbz.trans (hb1.mono hbz.size)
    go_wp2
    go_ret
    exact ⟨ret_int HF.out.symm, hb2⟩
  have hmm := htm.1 rfl
  clear htm
  have hl24 := hmm.most
  have hnd := hmm.nodup
  go_enter Tryz.func26, Tryz.ntmps26
  go_wp2_with fail
  refine cm.mono ?_
  rintro e w1 ⟨rfl, hb1⟩
  have hb2 := hbz.trans (hb1.mono hbz.size)
  have k0 : (w.alloc (.cells #[.int .u64 id, .slice A m c, .slice B' d e, .slice C f g] 26)).cell? ⟨w.heap.size, 0, none⟩ = some (.int .u64 id) := by go_simp
  have k1 : (w.alloc (.cells #[.int .u64 id, .slice A m c, .slice B' d e, .slice C f g] 26)).cell? ⟨w.heap.size, 1, none⟩ = some (.slice A m c) := by go_simp
  have k2 : (w.alloc (.cells #[.int .u64 id, .slice A m c, .slice B' d e, .slice C f g] 26)).cell? ⟨w.heap.size, 2, none⟩ = some (.slice B' d e) := by go_simp
  have k3 : (w.alloc (.cells #[.int .u64 id, .slice A m c, .slice B' d e, .slice C f g] 26)).cell? ⟨w.heap.size, 3, none⟩ = some (.slice C f g) := by go_simp
  replace k0 := cellL k0 hb1
  replace k1 := cellL k1 hb1
  replace k2 := cellL k2 hb1
  replace k3 := cellL k3 hb1
  have cr := ranksOf_any A m c l B w1 (i2.below (hb2.mono hB)) (Nat.le_trans hB hb2.size) (by omega)
  clear hbz hb1 cm z1 z2
  go_wp2_with fail
  refine cr.mono ?_
  rintro e w2 ⟨b, rfl, hpl, hbb, hbl, hb1⟩
  have hb3 := hb2.trans (hb1.mono hb2.size)
  replace k0 := cellL k0 hb1
  replace k1 := cellL k1 hb1
  replace k2 := cellL k2 hb1
  replace k3 := cellL k3 hb1
  obtain ⟨tl, htl⟩ := bool_of (LeavesP l (q.map Lf.l))
  have hbB := hb3.mono hB
  have cl := mbl_any b l.length l B' d e q B w2 tl hpl (i5.below hbB) (fun y hy => ⟨(i8 y hy).below hbB, hs4 y hy⟩) (Nat.le_trans hB hb3.size) hs2 hnd (by omega) htl
  clear hb2 hb1 cr
  cases tl
  · have hf := ckI_no (not_of_iff HT.out (fun h => by have := htl.2 h.lvs; cases this))
    have HF := hide hf
    clear hf htl
    go_wp2_with fail
    refine cl.mono ?_
    rintro e w3 ⟨rfl, hb1⟩
    have hb4 := hb3.trans (hb1.mono hb3.size)
    go_wp2
    go_ret
    exact ⟨ret_int HF.out.symm, hb4⟩
  have hlv := htl.1 rfl
  clear htl
  go_wp2_with fail
  refine cl.mono ?_
  rintro e w3 ⟨rfl, hb1⟩
  have hb4 := hb3.trans (hb1.mono hb3.size)
  replace k0 := cellL k0 hb1
  replace k1 := cellL k1 hb1
  replace k2 := cellL k2 hb1
  replace k3 := cellL k3 hb1
  have hp3 := hpl.later hb1
  clear hb1 hb3 cl hpl hbB
  by_cases hf0 : f = 0
  · have hf := ckI_no (not_of_iff HT.out (fun h => h.one (List.eq_nil_of_length_eq_zero (by rw [hlen3]; exact hf0))))
    have HF := hide hf
    have u1 : ((f : Int) == 0) = true := by rw [hf0]; rfl
    clear hf hf0
    go_wp2
    go_ret
    exact ⟨ret_int HF.out.symm, hb4⟩
  have u1 : ((f : Int) == 0) = false := by simp only [beq_eq_false_iff_ne, ne_eq]; omega
  have hne : r ≠ [] := fun e => by rw [e] at hlen3; simp at hlen3; omega
  obtain ⟨td, htd⟩ := bool_of (RiseP l r)
  have cd := rise_any b l.length l C f g r B w3 td hp3 (i9.below (hb4.mono hB)) (Nat.le_trans hB hb4.size) (by omega) htd
  cases td
  · have hf := ckI_no (not_of_iff HT.out (fun h => by have := htd.2 h.ldr; cases this))
    have HF := hide hf
    clear hf htd
    go_wp2_with fail
    refine cd.mono ?_
    rintro e w4 ⟨rfl, hb1⟩
    have hb5 := hb4.trans (hb1.mono hb4.size)
    go_wp2
    go_ret
    exact ⟨ret_int HF.out.symm, hb5⟩
  · have hf := ckI_yes (HT.out.2 ⟨hlo, hhi, hmm, hlv, hne, htd.1 rfl⟩)
    have HF := hide hf
    clear hf htd
    go_wp2_with fail
    refine cd.mono ?_
    rintro e w4 ⟨rfl, hb1⟩
    have hb5 := hb4.trans (hb1.mono hb4.size)
    go_wp2
    go_ret
    exact ⟨ret_int HF.out.symm, hb5⟩
def lfX : List (List Pr) → Pr → Nat
  | [], _ => 0
  | l :: r, p => if p ∈ l then 0 else lfX r p + 1
def lfI (lvs : List (List Pr)) (p : Pr) : Int := if p ∈ lvs.flatten then (lfX lvs p : Int) else -1
theorem lfX_new : ∀ (a : List (List Pr)) (l : List Pr) (b : List (List Pr)) (p : Pr), (∀ x ∈ a, p ∉ x) → p ∈ l → lfX (a ++ l :: b) p = a.length
  | [], l, b, p, _, h => by rw [List.nil_append, lfX, if_pos h]; rfl
  | x :: a, l, b, p, h, h' => by rw [List.cons_append, lfX, if_neg (h x (by simp)), lfX_new a l b p (fun y hy => h y (by simp [hy])) h', List.length_cons]
def NotL (p : Pr) (lvs : List (List Pr)) (j : Nat) : Prop := ∀ x ∈ lvs.take j, p ∉ x
theorem NotL.start (p : Pr) (lvs : List (List Pr)) : NotL p lvs 0 := fun x h => by simp at h
theorem NotL.step {p : Pr} {lvs : List (List Pr)} {j : Nat} (h : NotL p lvs j) (hj : j < lvs.length) (hp : p ∉ lvs[j]) : NotL p lvs (j + 1) := by
  unfold NotL at *
  rw [List.take_succ_eq_append_getElem hj]
  intro x hx
  rw [List.mem_append, List.mem_singleton] at hx
  exact hx.elim (h x) (fun e => e ▸ hp)
theorem NotL.hit {p : Pr} {lvs : List (List Pr)} {j : Nat} (h : NotL p lvs j) (hj : j < lvs.length) (hp : p ∈ lvs[j]) : lfI lvs p = (j : Int) := by
  have e : lvs = lvs.take j ++ lvs[j] :: lvs.drop (j + 1) := by rw [← List.drop_eq_getElem_cons hj, List.take_append_drop]
  have := lfX_new (lvs.take j) lvs[j] (lvs.drop (j + 1)) p h hp
  rw [← e, List.length_take, Nat.min_eq_left (by omega)] at this
  unfold lfI
  rw [if_pos (List.mem_flatten.2 ⟨lvs[j], List.getElem_mem hj, hp⟩), this]
theorem NotL.out_ {p : Pr} {lvs : List (List Pr)} {j : Nat} (h : NotL p lvs j) (hj : lvs.length ≤ j) : lfI lvs p = -1 := by
  unfold NotL at h
  rw [List.take_of_length_le hj] at h
  unfold lfI
  rw [if_neg]
  intro hm
  obtain ⟨x, hx, hp⟩ := List.mem_flatten.1 hm
  exact h x hx hp
theorem lfX_lt : ∀ (lvs : List (List Pr)) (p : Pr), p ∈ lvs.flatten → ∃ h : lfX lvs p < lvs.length, p ∈ lvs[lfX lvs p]
  | [], p, h => by simp at h
  | l :: r, p, h => by
    by_cases hl : p ∈ l
    · refine ⟨by rw [lfX, if_pos hl]; simp, ?_⟩
      simp only [lfX, if_pos hl]
      exact hl
    · obtain ⟨h1, h2⟩ := lfX_lt r p (by rw [List.flatten_cons, List.mem_append] at h; exact h.resolve_left hl)
      refine ⟨by rw [lfX, if_neg hl, List.length_cons]; omega, ?_⟩
      simp only [lfX, if_neg hl]
      exact h2
set_option maxRecDepth 100000 in
theorem clo_leaf (y : Lf) (pb : Nat) (p : Pr) (B : Nat) (w : World) (h : LfIn w B y) (hB : B ≤ w.heap.size) (h0 : w.cell? ⟨pb, 0, none⟩ = some (.int .u16 p.i)) (h1 : w.cell? ⟨pb, 1, none⟩ = some (.int .u32 p.k)) :
    Calls Tryz.prog 88 #[.slice y.A y.m y.c, .pointer (some ⟨pb, 0, none⟩)] w fun e w' => e = .returned (.bool (decide (p ∈ y.l))) ∧ Below w.heap.size w w' := by
  have c1 := contains_any y.A y.m y.c y.l B p w h.es hB (Nat.le_trans h.mc h.room)
  generalize decide (p ∈ y.l) = t at *
  go_enter Tryz.func88, Tryz.ntmps88
  go_wp2_with fail
  refine c1.mono ?_
  rintro e w1 ⟨rfl, hb⟩
  go_wp2
  go_ret
  exact ⟨rfl, hb⟩
set_option maxRecDepth 100000 in
theorem indexf_any (A : Option Addr) (n c : Nat) (q : List Lf) (pb : Nat) (p : Pr) (B : Nat) (w : World) (hA : Es lfC w B A n q) (hin : ∀ y ∈ q, LfIn w B y) (hB : B ≤ w.heap.size) (hn : n ≤ maxLen) (h0 : w.cell? ⟨pb, 0, none⟩ = some (.int .u16 p.i)) (h1 : w.cell? ⟨pb, 1, none⟩ = some (.int .u32 p.k)) :
    Calls Tryz.prog 87 #[.slice A n c, .func (.func 88) #[] #[.pointer (some ⟨pb, 0, none⟩)]] w fun e w' => e = .returned (.int .i64 (lfI (q.map Lf.l) p)) ∧ Below w.heap.size w w' := by
  unfold maxLen at hn
  have hlen := hA.len
  obtain ⟨lvs, hlv⟩ : ∃ lvs, lvs = q.map Lf.l := ⟨_, rfl⟩
  rw [← hlv]
  have hll : lvs.length = n := by rw [hlv, List.length_map, hlen]
  have hat : ∀ k (h1 : k < q.length) (h2 : k < lvs.length), lvs[k] = q[k].l := fun k h1 h2 => by simp [hlv]
  obtain ⟨r, hr⟩ : ∃ r, r = lfI lvs p := ⟨_, rfl⟩
  rw [← hr]
  have HR := hide hr
  have HL := hide (And.intro hlen hll)
  have HAT := hide hat
  have HIN := hide hin
  have hs0 := NotL.start p lvs
  clear hlen hlv hll hat hin hr
  go_enter Tryz.func87, Tryz.ntmps87
  go_wp2
  go_loopw [8] (fun i wr => ∃ j : Nat, j ≤ n ∧ i = .int .i64 j ∧ NotL p lvs j ∧ Below w.heap.size w wr) (fun i _ => n - (intOf i).toNat)
  case atStart => exact ⟨0, Nat.zero_le _, rfl, hs0, Below.refl _ _⟩
  case round =>
    obtain ⟨j, hj, rfl, hno, hb⟩ := hrel
    clear hs0
    by_cases hlt : j < n
    · have hbB := hb.mono hB
      obtain ⟨ad, hl, rfl, hbl, hc⟩ := (hA.below hbB).at_ lfOk hlt
      have hlj : j < lvs.length := by rw [HL.out.2]; exact hlt
      have hyl := HAT.out j hl hlj
      have hhit := hno.hit hlj
      have hstep := hno.step hlj
      rw [hyl] at hhit hstep
      have hy := HIN.out q[j] (List.getElem_mem hl)
      obtain ⟨z, hz⟩ : ∃ z, z = q[j] := ⟨_, rfl⟩
      rw [← hz] at hc hhit hstep hy
      have c0 := lf_at hc
      have cc := clo_leaf z pb p B wr (hy.below hbB) (Nat.le_trans hB hb.size) (cellL h0 hb) (cellL h1 hb)
      clear hz hc hyl
      obtain ⟨t, ht⟩ : ∃ t, t = decide (p ∈ z.l) := ⟨_, rfl⟩
      rw [← ht] at cc
      cases t
      · have hst := hstep (of_decide_eq_false ht.symm)
        have HS := hide hst
        clear hhit hstep ht hst
        go_wp2_with fail
        refine cc.mono ?_
        rintro e w1 ⟨rfl, hb1⟩
        have hb2 := hb.trans (hb1.mono hb.size)
        go_wp2
        go_roundw
        case rel => exact ⟨j + 1, by omega, by go_num, HS.out, hb2⟩
        case measure => simp [intOf]; omega
      · have hh := HR.out.trans (hhit (of_decide_eq_true ht.symm))
        have HH := hide hh
        clear hhit hstep ht hh
        go_wp2_with fail
        refine cc.mono ?_
        rintro e w1 ⟨rfl, hb1⟩
        have hb2 := hb.trans (hb1.mono hb.size)
        go_wp2
        go_ret
        exact ⟨ret_int HH.out.symm, hb2⟩
    · have hf := hno.out_ (by rw [HL.out.2]; omega)
      have HI := hide (HR.out.trans hf)
      clear hf
      go_wp2
      go_ret
      exact ⟨ret_int HI.out.symm, hb⟩
set_option maxRecDepth 100000 in
theorem leaf_any (x : Vw) (p : Pr) (B : Nat) (w : World) (h : VwIn w B x) (hB : B ≤ w.heap.size) :
    Calls Tryz.prog 28 #[.agg #[.int .u64 x.id, .slice x.A x.m x.c, .slice x.B x.d x.e, .slice x.C x.f x.g], .agg #[.int .u16 p.i, .int .u32 p.k]] w fun e w' => e = .returned (.int .i64 (lfI x.v.lvs p)) ∧ Below w.heap.size w w' := by
  obtain ⟨id, A, m, c, l, B', d, e, q, C, f, g, r⟩ := x
  have hmf : ∀ (fn : Fn) (first cap : Array Value) (w : World), (Instr.makeFunc fn first cap).run Tryz.prog w = .ok (.func fn first cap) w := fun _ _ _ _ => rfl
  have hbz : Below w.heap.size w ((w.alloc (.cells #[.int .u64 id, .slice A m c, .slice B' d e, .slice C f g] 26)).alloc (.cells #[.int .u16 p.i, .int .u32 p.k] 44)) := ((Below.refl _ _).alloc (Nat.le_refl _) _).alloc (by simp) _
  have hbB := hbz.mono hB
  have g0 : ((w.alloc (.cells #[.int .u64 id, .slice A m c, .slice B' d e, .slice C f g] 26)).alloc (.cells #[.int .u16 p.i, .int .u32 p.k] 44)).cell? ⟨w.heap.size + 1, 0, none⟩ = some (.int .u16 p.i) := by go_simp
  have g1 : ((w.alloc (.cells #[.int .u64 id, .slice A m c, .slice B' d e, .slice C f g] 26)).alloc (.cells #[.int .u16 p.i, .int .u32 p.k] 44)).cell? ⟨w.heap.size + 1, 1, none⟩ = some (.int .u32 p.k) := by go_simp
  have c1 := indexf_any B' d e q (w.heap.size + 1) p B _ (h.lv.below hbB) (fun y hy => (h.each y hy).below hbB) (by simp; omega) (Nat.le_trans h.de h.room2) g0 g1
  simp only [Vw.v]
  clear h
  generalize lfI (q.map Lf.l) p = t at *
  go_enter Tryz.func28, Tryz.ntmps28
  go_wp2_with fail
  refine c1.mono ?_
  rintro e w1 ⟨rfl, hb⟩
  have hb1 := hbz.trans (hb.mono hbz.size)
  go_wp2
  go_ret
  exact ⟨rfl, hb1⟩
end Go.Proofs.YtjmkecaljkcoiaaGreatDoor
