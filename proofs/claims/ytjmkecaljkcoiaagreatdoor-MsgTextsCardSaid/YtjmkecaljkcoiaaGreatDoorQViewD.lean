import Derived.Test.YtjmkecaljkcoiaaGreatDoorQView6
import Derived.Test.YtjmkecaljkcoiaaGreatDoorQFlow
namespace Go.Proofs.YtjmkecaljkcoiaaGreatDoor
open Go.RowKit Go.Maps
set_option linter.unusedVariables false
set_option linter.unusedSimpArgs false
def q11 : Pr := ⟨1, 1, by decide, by decide⟩
def q21 : Pr := ⟨2, 1, by decide, by decide⟩
def q31 : Pr := ⟨3, 1, by decide, by decide⟩
def q91 : Pr := ⟨9, 1, by decide, by decide⟩
def smallV : Vi := ⟨1, [q11, q21, q31], [[q11, q31], [q21]], [q11, q21]⟩
def allocs (w : World) : List Obj → World
  | [] => w
  | o :: os => allocs (w.alloc o) os
def SmallP (w : World) (e : Ending) (w' : World) : Prop := ∃ x : Vw, e = .returned (.agg #[.int .u64 x.id, .slice x.A x.m x.c, .slice x.B x.d x.e, .slice x.C x.f x.g]) ∧ VwIn w' w'.heap.size x ∧ VSmall x ∧ x.v = smallV ∧ Below w.heap.size w w'
def smallX (a : Nat) : Vw := ⟨1, some ⟨a + 4, 0, none⟩, 3, 3, [q11, q21, q31], some ⟨a + 7, 0, none⟩, 2, 2, [⟨some ⟨a + 5, 0, none⟩, 2, 2, [q11, q31]⟩, ⟨some ⟨a + 6, 0, none⟩, 1, 1, [q21]⟩], some ⟨a + 8, 0, none⟩, 2, 2, [q11, q21]⟩
def smallO (a : Nat) : List Obj := [.cells #[.int .u64 1, .slice (some ⟨a + 4, 0, none⟩) 3 3, .slice (some ⟨a + 7, 0, none⟩) 2 2, .slice (some ⟨a + 8, 0, none⟩) 2 2] 26,
  .cells #[.int .u16 1, .int .u32 1] 44, .cells #[.int .u16 2, .int .u32 1] 44, .cells #[.int .u16 3, .int .u32 1] 44,
  .cells #[.int .u16 1, .int .u32 1, .int .u16 2, .int .u32 1, .int .u16 3, .int .u32 1] 44, .cells #[.int .u16 1, .int .u32 1, .int .u16 3, .int .u32 1] 44, .cells #[.int .u16 2, .int .u32 1] 44,
  .cells #[.slice (some ⟨a + 5, 0, none⟩) 2 2, .slice (some ⟨a + 6, 0, none⟩) 1 1] 23, .cells #[.int .u16 1, .int .u32 1, .int .u16 2, .int .u32 1] 44]
end Go.Proofs.YtjmkecaljkcoiaaGreatDoor
namespace Go.Proofs.YtjmkecaljkcoiaaGreatDoor
open Go.RowKit Go.Maps
set_option linter.unusedVariables false
set_option linter.unusedSimpArgs false
def EsV {α : Type} (enc : α → List Value) (n : Nat) (l : List α) (v : Value) (w : World) : Prop := ∃ A c B, v = .slice A n c ∧ Es enc w B A n l ∧ B ≤ w.heap.size
end Go.Proofs.YtjmkecaljkcoiaaGreatDoor
namespace Go.Proofs.YtjmkecaljkcoiaaGreatDoor
open Go.RowKit Go.Maps
set_option linter.unusedVariables false
theorem VAt.mk_ (w : World) (x : Vw) : VAt (w.alloc (.cells #[.int .u64 x.id, .slice x.A x.m x.c, .slice x.B x.d x.e, .slice x.C x.f x.g] 26)) w.heap.size x := heap_alloc_new w _
theorem VAt.lt {w : World} {b : Nat} {x : Vw} (h : VAt w b x) : b < w.heap.size := (Array.getElem?_eq_some_iff.1 h).1
theorem VAt.later {w w' : World} {b : Nat} {x : Vw} (h : VAt w b x) (hb : Below w.heap.size w w') : VAt w' b x := (hb.block b h.lt).trans h
theorem VAt.alloc {w : World} {b : Nat} {x : Vw} (h : VAt w b x) (o : Obj) : VAt (w.alloc o) b x := h.later ((Below.refl _ _).alloc (Nat.le_refl _) o)
theorem VAt.cells {w : World} {b : Nat} {x : Vw} (h : VAt w b x) : w.cell? ⟨b, 0, none⟩ = some (.int .u64 x.id) ∧ w.cell? ⟨b, 1, none⟩ = some (.slice x.A x.m x.c) ∧ w.cell? ⟨b, 2, none⟩ = some (.slice x.B x.d x.e) ∧ w.cell? ⟨b, 3, none⟩ = some (.slice x.C x.f x.g) :=
  ⟨cell_of_row w b 0 _ _ (0, 0) h, cell_of_row w b 1 _ _ (0, 0) h, cell_of_row w b 2 _ _ (0, 0) h, cell_of_row w b 3 _ _ (0, 0) h⟩
end Go.Proofs.YtjmkecaljkcoiaaGreatDoor
namespace Go.Proofs.YtjmkecaljkcoiaaGreatDoor
open Go.RowKit Go.Maps
set_option linter.unusedVariables false
set_option linter.unusedSimpArgs false
set_option maxRecDepth 100000 in
theorem sequal_any (A A' : Option Addr) (n m c c' : Nat) (l l' : List Pr) (B B' : Nat) (w : World) (hA : Es prC w B A n l) (hA' : Es prC w B' A' m l') (hn : n ≤ maxLen) (hm : m ≤ maxLen) :
    Calls Tryz.prog 213 #[.slice A n c, .slice A' m c'] w fun e w' => e = .returned (.bool (decide (l = l'))) ∧ Drawn w w' := by
  unfold maxLen at hn hm
  have hlen := hA.len
  have hlen' := hA'.len
  obtain ⟨r, hr⟩ : ∃ r, r = decide (l = l') := ⟨_, rfl⟩
  rw [← hr]
  by_cases hnm : n = m
  · subst hnm
    have HL := hide hlen
    have HL' := hide hlen'
    have HR := hide hr
    clear hlen hlen' hr
    have h0 : SameTo l l' 0 := by simp [SameTo]
    go_enter Tryz.func213, Tryz.ntmps213
    go_wp2
    go_loopw [13] (fun i wr => ∃ j : Nat, j ≤ n ∧ i = .int .i64 j ∧ SameTo l l' j ∧ Drawn w wr) (fun i _ => n - (intOf i).toNat)
    case atStart => exact ⟨0, Nat.zero_le _, rfl, h0, Drawn.refl _⟩
    case round =>
      obtain ⟨j, hj, rfl, hsame, hd⟩ := hrel
      obtain ⟨n0, rfl⟩ := hd
      by_cases hlt : j < n
      · obtain ⟨ad, hl, rfl, hbl, hc⟩ := hA.at_ prOk hlt
        obtain ⟨ad', hl', rfl, hbl', hc'⟩ := hA'.at_ prOk hlt
        obtain ⟨q, hq⟩ : ∃ q, q = l[j] := ⟨_, rfl⟩
        obtain ⟨p, hp⟩ : ∃ p, p = l'[j] := ⟨_, rfl⟩
        rw [← hq] at hc
        rw [← hp] at hc'
        obtain ⟨c0, c1⟩ := pr_at hc
        obtain ⟨d0, d1⟩ := pr_at hc'
        have HQ := hide hq
        have HP := hide hp
        clear hc hq hc' hp
        have z1 : (0 : Int) ≤ (j : Int) := by omega
        have z2 : (j : Int) < (n : Int) := by omega
        by_cases hqi : q.i = p.i
        · by_cases hqk : q.k = p.k
          · have hst := hsame.step hl hl' (by rw [← HQ.out, ← HP.out]; exact Pr.ext hqi hqk)
            rw [hqi] at c0
            rw [hqk] at c1
            clear hqi hqk
            go_wp2_with fail
            go_quiet (fail)
            go_wp2
            go_roundw
            case rel => exact ⟨j + 1, by omega, by go_num, hst, (by first | exact drawn_one _ _ | exact drawn_two _ _ _)⟩
            case measure => simp [intOf]; omega
          · have hf : decide (l = l') = false := decide_eq_false (fun e => hqk (by rw [HQ.out, HP.out]; subst e; rfl))
            have HI := hide (HR.out.trans hf)
            have q3 : ¬ ((q.k : Int) = (p.k : Int)) := by omega
            rw [hqi] at c0
            clear hqi hqk hf
            go_wp2_with fail
            go_quiet (fail)
            go_wp2
            go_ret
            exact ⟨ret_bool HI.out.symm, (by first | exact drawn_one _ _ | exact drawn_two _ _ _)⟩
        · have hf : decide (l = l') = false := decide_eq_false (fun e => hqi (by rw [HQ.out, HP.out]; subst e; rfl))
          have HI := hide (HR.out.trans hf)
          have q3 : ¬ ((q.i : Int) = (p.i : Int)) := by omega
          clear hqi hf
          go_wp2_with fail
          go_quiet (fail)
          go_wp2
          go_ret
          exact ⟨ret_bool HI.out.symm, (by first | exact drawn_one _ _ | exact drawn_two _ _ _)⟩
      · have hf : decide (l = l') = true := decide_eq_true (hsame.done (by rw [HL.out]; omega) (by rw [HL'.out]; omega))
        have HI := hide (HR.out.trans hf)
        clear hf
        go_wp2
        go_ret
        exact ⟨ret_bool HI.out.symm, drawn_one _ _⟩
  · have hf : decide (l = l') = false := decide_eq_false (fun e => hnm (by rw [← hlen, ← hlen', e]))
    have HI := hide (hr.trans hf)
    have hne : ((n : Int) != (m : Int)) = true := by simp; omega
    clear hf hr hlen hlen'
    go_enter Tryz.func213, Tryz.ntmps213
    go_wp2
    go_ret
    exact ⟨ret_bool HI.out.symm, Drawn.refl _⟩
def SamL (l m : List (List Pr)) (j : Nat) : Prop := l.take j = m.take j
theorem SamL.start (l m : List (List Pr)) : SamL l m 0 := by simp [SamL]
theorem SamL.step {l m : List (List Pr)} {j : Nat} (h : SamL l m j) (h1 : j < l.length) (h2 : j < m.length) (he : l[j] = m[j]) : SamL l m (j + 1) := by
  unfold SamL at *
  rw [List.take_succ_eq_append_getElem h1, List.take_succ_eq_append_getElem h2, h, he]
theorem SamL.done {l m : List (List Pr)} {j : Nat} (h : SamL l m j) (h1 : l.length ≤ j) (h2 : m.length ≤ j) : l = m := by
  unfold SamL at h
  rwa [List.take_of_length_le h1, List.take_of_length_le h2] at h
set_option maxRecDepth 100000 in
theorem eqfunc_any (A A' : Option Addr) (n m c c' : Nat) (q q' : List Lf) (B B' : Nat) (w : World) (hA : Es lfC w B A n q) (hA' : Es lfC w B' A' m q') (hn : n ≤ maxLen) (hm : m ≤ maxLen) (h1 : ∀ y ∈ q, LfIn w B y) (h2 : ∀ y ∈ q', LfIn w B' y) (hB : B ≤ w.heap.size) (hB' : B' ≤ w.heap.size) :
    Calls Tryz.prog 214 #[.slice A n c, .slice A' m c', .func (.func 213) #[] #[]] w fun e w' => e = .returned (.bool (decide (q.map Lf.l = q'.map Lf.l))) ∧ Below w.heap.size w w' := by
  unfold maxLen at hn hm
  have hlen := hA.len
  have hlen' := hA'.len
  obtain ⟨r, hr⟩ : ∃ r, r = decide (q.map Lf.l = q'.map Lf.l) := ⟨_, rfl⟩
  rw [← hr]
  obtain ⟨lv, hlv⟩ : ∃ z, z = q.map Lf.l := ⟨_, rfl⟩
  obtain ⟨lv', hlv'⟩ : ∃ z, z = q'.map Lf.l := ⟨_, rfl⟩
  rw [← hlv, ← hlv'] at hr
  have hl1 : lv.length = n := by rw [hlv, List.length_map, hlen]
  have hl2 : lv'.length = m := by rw [hlv', List.length_map, hlen']
  have hat : ∀ k (h1 : k < q.length) (h2 : k < lv.length), lv[k] = q[k].l := fun k h1 h2 => by simp [hlv]
  have hat' : ∀ k (h1 : k < q'.length) (h2 : k < lv'.length), lv'[k] = q'[k].l := fun k h1 h2 => by simp [hlv']
  by_cases hnm : n = m
  · subst hnm
    have HL := hide (And.intro hl1 (And.intro hl2 (And.intro hlen hlen')))
    have HAT := hide (And.intro hat hat')
    have HIN := hide (And.intro h1 h2)
    have HR := hide hr
    clear hlen hlen' hr hl1 hl2 hat hat' h1 h2 hlv hlv'
    have h0 := SamL.start lv lv'
    go_enter Tryz.func214, Tryz.ntmps214
    go_wp2
    go_loopw [17] (fun i wr => ∃ j : Nat, j ≤ n ∧ i = .int .i64 j ∧ SamL lv lv' j ∧ Below w.heap.size w wr) (fun i _ => n - (intOf i).toNat)
    case atStart => exact ⟨0, Nat.zero_le _, rfl, h0, Below.refl _ _⟩
    case round =>
      obtain ⟨j, hj, rfl, hsame, hb⟩ := hrel
      clear h0
      by_cases hlt : j < n
      · obtain ⟨ad, hl, rfl, hbl, hc⟩ := (hA.below (hb.mono hB)).at_ lfOk hlt
        obtain ⟨ad', hl', rfl, hbl', hc'⟩ := (hA'.below (hb.mono hB')).at_ lfOk hlt
        have k1 : j < lv.length := by rw [HL.out.1]; exact hlt
        have k2 : j < lv'.length := by rw [HL.out.2.1]; exact hlt
        have hst := hsame.step k1 k2
        have e1 := HAT.out.1 j hl k1
        have e2 := HAT.out.2 j hl' k2
        have hne : lv[j] ≠ lv'[j] → r = false := fun h => by rw [HR.out]; exact decide_eq_false fun e => h (by subst e; rfl)
        have y1 := HIN.out.1 q[j] (List.getElem_mem hl)
        have y2 := HIN.out.2 q'[j] (List.getElem_mem hl')
        rw [e1, e2] at hst hne
        obtain ⟨z, hz⟩ : ∃ z, z = q[j] := ⟨_, rfl⟩
        obtain ⟨z', hz'⟩ : ∃ z, z = q'[j] := ⟨_, rfl⟩
        rw [← hz] at hc hst hne y1
        rw [← hz'] at hc' hst hne y2
        have c0 := lf_at hc
        have d0 := lf_at hc'
        have ce := sequal_any z.A z'.A z.m z'.m z.c z'.c z.l z'.l B B' wr (y1.below (hb.mono hB)).es (y2.below (hb.mono hB')).es (Nat.le_trans y1.mc y1.room) (Nat.le_trans y2.mc y2.room)
        have z1 : (0 : Int) ≤ (j : Int) := by omega
        have z2 : (j : Int) < (n : Int) := by omega
        clear hz hz' e1 e2 hc hc' y1 y2 hsame
        obtain ⟨u, hu⟩ : ∃ u, u = decide (z.l = z'.l) := ⟨_, rfl⟩
        rw [← hu] at ce
        cases u
        · have hf := hne (of_decide_eq_false hu.symm)
          have HI := hide hf
          clear hf hst hne hu
          go_wp2_with fail
          refine ce.mono ?_
          rintro e w1 ⟨rfl, hd⟩
          have hb2 := hb.trans ((drawn_below hd).mono hb.size)
          go_wp2
          go_ret
          exact ⟨ret_bool HI.out.symm, hb2⟩
        · have hs := hst (of_decide_eq_true hu.symm)
          have HS := hide hs
          clear hs hst hne hu
          go_wp2_with fail
          refine ce.mono ?_
          rintro e w1 ⟨rfl, hd⟩
          have hb2 := hb.trans ((drawn_below hd).mono hb.size)
          go_wp2
          go_roundw
          case rel => exact ⟨j + 1, by omega, by go_num, HS.out, hb2⟩
          case measure => simp [intOf]; omega
      · have hf : r = true := by rw [HR.out]; exact decide_eq_true (hsame.done (by rw [HL.out.1]; omega) (by rw [HL.out.2.1]; omega))
        have HI := hide hf
        clear hf
        go_wp2
        go_ret
        exact ⟨ret_bool HI.out.symm, hb⟩
  · have hf : r = false := by rw [hr]; exact decide_eq_false (fun e => hnm (by rw [← hl1, ← hl2, e]))
    have HI := hide hf
    have hne : ((n : Int) != (m : Int)) = true := by simp; omega
    clear hf hr hlen hlen' hl1 hl2
    go_enter Tryz.func214, Tryz.ntmps214
    go_wp2
    go_ret
    exact ⟨ret_bool HI.out.symm, Below.refl _ _⟩
theorem Vi.ext' {a b : Vi} (h1 : a.id = b.id) (h2 : a.mem = b.mem) (h3 : a.lvs = b.lvs) (h4 : a.ldr = b.ldr) : a = b := by
  cases a; cases b; simp only at h1 h2 h3 h4; subst h1; subst h2; subst h3; subst h4; rfl
end Go.Proofs.YtjmkecaljkcoiaaGreatDoor
