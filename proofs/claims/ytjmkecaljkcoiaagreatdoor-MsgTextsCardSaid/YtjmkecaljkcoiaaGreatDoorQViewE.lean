import Derived.Test.YtjmkecaljkcoiaaGreatDoorQViewD
namespace Go.Proofs.YtjmkecaljkcoiaaGreatDoor
open Go.RowKit Go.Maps
set_option linter.unusedVariables false
set_option linter.unusedSimpArgs false
theorem vi_eq (a b : Vi) : a = b ↔ a.id = b.id ∧ a.mem = b.mem ∧ a.lvs = b.lvs ∧ a.ldr = b.ldr := ⟨fun h => by rw [h]; exact ⟨rfl, rfl, rfl, rfl⟩, fun h => Vi.ext' h.1 h.2.1 h.2.2.1 h.2.2.2⟩
set_option maxRecDepth 100000 in
theorem vsame_any (x y : Vw) (B B' : Nat) (w : World) (t : Bool) (h : VwIn w B x) (h' : VwIn w B' y) (hB : B ≤ w.heap.size) (hB' : B' ≤ w.heap.size) (ht : t = true ↔ x.v = y.v) :
    Calls Tryz.prog 176 #[.agg #[.int .u64 x.id, .slice x.A x.m x.c, .slice x.B x.d x.e, .slice x.C x.f x.g], .agg #[.int .u64 y.id, .slice y.A y.m y.c, .slice y.B y.d y.e, .slice y.C y.f y.g]] w fun e w' => e = .returned (.bool t) ∧ Below w.heap.size w w' := by
  rw [vi_eq] at ht
  simp only [Vw.v] at ht
  have v0 := (VAt.mk_ w x).alloc (.cells #[.int .u64 y.id, .slice y.A y.m y.c, .slice y.B y.d y.e, .slice y.C y.f y.g] 26)
  have v1 := VAt.mk_ (w.alloc (.cells #[.int .u64 x.id, .slice x.A x.m x.c, .slice x.B x.d x.e, .slice x.C x.f x.g] 26)) y
  simp only [World.size_alloc] at v1
  have hbz : Below w.heap.size w ((w.alloc (.cells #[.int .u64 x.id, .slice x.A x.m x.c, .slice x.B x.d x.e, .slice x.C x.f x.g] 26)).alloc (.cells #[.int .u64 y.id, .slice y.A y.m y.c, .slice y.B y.d y.e, .slice y.C y.f y.g] 26)) := ((Below.refl _ _).alloc (Nat.le_refl _) _).alloc (by simp) _
  have hx := h.below (hbz.mono hB)
  have hy := h'.below (hbz.mono hB')
  clear h h'
  have c1 := sequal_any x.A y.A x.m y.m x.c y.c x.l y.l B B' _ hx.es hy.es (Nat.le_trans hx.mc hx.room) (Nat.le_trans hy.mc hy.room)
  have c2 := fun W (hb : Below ((w.alloc (.cells #[.int .u64 x.id, .slice x.A x.m x.c, .slice x.B x.d x.e, .slice x.C x.f x.g] 26)).alloc (.cells #[.int .u64 y.id, .slice y.A y.m y.c, .slice y.B y.d y.e, .slice y.C y.f y.g] 26)).heap.size ((w.alloc (.cells #[.int .u64 x.id, .slice x.A x.m x.c, .slice x.B x.d x.e, .slice x.C x.f x.g] 26)).alloc (.cells #[.int .u64 y.id, .slice y.A y.m y.c, .slice y.B y.d y.e, .slice y.C y.f y.g] 26)) W) => eqfunc_any x.B y.B x.d y.d x.e y.e x.q y.q B B' W (hx.below (hb.mono (Nat.le_trans hB hbz.size))).lv (hy.below (hb.mono (Nat.le_trans hB' hbz.size))).lv (Nat.le_trans hx.de hx.room2) (Nat.le_trans hy.de hy.room2) (hx.below (hb.mono (Nat.le_trans hB hbz.size))).each (hy.below (hb.mono (Nat.le_trans hB' hbz.size))).each (Nat.le_trans hB (Nat.le_trans hbz.size hb.size)) (Nat.le_trans hB' (Nat.le_trans hbz.size hb.size))
  have c3 := fun W (hb : Below ((w.alloc (.cells #[.int .u64 x.id, .slice x.A x.m x.c, .slice x.B x.d x.e, .slice x.C x.f x.g] 26)).alloc (.cells #[.int .u64 y.id, .slice y.A y.m y.c, .slice y.B y.d y.e, .slice y.C y.f y.g] 26)).heap.size ((w.alloc (.cells #[.int .u64 x.id, .slice x.A x.m x.c, .slice x.B x.d x.e, .slice x.C x.f x.g] 26)).alloc (.cells #[.int .u64 y.id, .slice y.A y.m y.c, .slice y.B y.d y.e, .slice y.C y.f y.g] 26)) W) => sequal_any x.C y.C x.f y.f x.g y.g x.r y.r B B' W (hx.below (hb.mono (Nat.le_trans hB hbz.size))).dr (hy.below (hb.mono (Nat.le_trans hB' hbz.size))).dr (Nat.le_trans hx.fg hx.room3) (Nat.le_trans hy.fg hy.room3)
  obtain ⟨u1, hu1⟩ : ∃ u, u = decide (x.l = y.l) := ⟨_, rfl⟩
  obtain ⟨u2, hu2⟩ : ∃ u, u = decide (x.q.map Lf.l = y.q.map Lf.l) := ⟨_, rfl⟩
  obtain ⟨u3, hu3⟩ : ∃ u, u = decide (x.r = y.r) := ⟨_, rfl⟩
  rw [← hu1] at c1
  simp only [← hu2] at c2
  simp only [← hu3] at c3
  have ht2 : t = (decide (x.id = y.id) && (u1 && (u2 && u3))) := by
    rw [Bool.eq_iff_iff, ht, hu1, hu2, hu3]
    simp only [Bool.and_eq_true, decide_eq_true_eq]
  have HT := hide ht2
  clear ht ht2 hu1 hu2 hu3 hx hy
  obtain ⟨id, A, m, c, l, B1, d, e, q, C, f, g, r⟩ := x
  obtain ⟨id2, A2, m2, c2', l2, B2, d2, e2, q2, C2, f2, g2, r2⟩ := y
  obtain ⟨k0, k1, k2, k3⟩ := v0.cells
  obtain ⟨j0, j1, j2, j3⟩ := v1.cells
  dsimp only at *
  generalize hw2 : ((w.alloc (.cells #[.int .u64 id, .slice A m c, .slice B1 d e, .slice C f g] 26)).alloc (.cells #[.int .u64 id2, .slice A2 m2 c2', .slice B2 d2 e2, .slice C2 f2 g2] 26)) = w2 at *
  by_cases hid : id = id2
  · subst hid
    rw [decide_eq_true rfl, Bool.true_and] at HT
    go_enter Tryz.func176, Tryz.ntmps176
    cases u1
    · go_wp2_with fail
      refine c1.mono ?_
      rintro e w3 ⟨rfl, hd⟩
      have hb3 := hbz.trans ((drawn_below hd).mono hbz.size)
      clear hw2
      go_wp2
      go_ret
      exact ⟨ret_bool (by rw [HT.out]; rfl), hb3⟩
    · rw [Bool.true_and] at HT
      go_wp2_with fail
      refine c1.mono ?_
      rintro e w3 ⟨rfl, hd⟩
      have hb1 : Below w2.heap.size w2 w3 := drawn_below hd
      have hb3 := hbz.trans (hb1.mono hbz.size)
      replace k0 := cellL k0 hb1
      replace k1 := cellL k1 hb1
      replace k2 := cellL k2 hb1
      replace k3 := cellL k3 hb1
      replace j0 := cellL j0 hb1
      replace j1 := cellL j1 hb1
      replace j2 := cellL j2 hb1
      replace j3 := cellL j3 hb1
      have c2 := c2 w3 hb1
      clear hw2 hd c1
      cases u2
      · go_wp2_with fail
        refine c2.mono ?_
        rintro e w4 ⟨rfl, hb2⟩
        have hb4 := hb3.trans (hb2.mono hb3.size)
        go_wp2
        go_ret
        exact ⟨ret_bool (by rw [HT.out]; rfl), hb4⟩
      · rw [Bool.true_and] at HT
        go_wp2_with fail
        refine c2.mono ?_
        rintro e w4 ⟨rfl, hb2⟩
        have hb4 := hb3.trans (hb2.mono hb3.size)
        replace k0 := cellL k0 hb2
        replace k1 := cellL k1 hb2
        replace k2 := cellL k2 hb2
        replace k3 := cellL k3 hb2
        replace j0 := cellL j0 hb2
        replace j1 := cellL j1 hb2
        replace j2 := cellL j2 hb2
        replace j3 := cellL j3 hb2
        have c3 := c3 w4 (hb1.trans (hb2.mono hb1.size))
        clear c2 hb3 hb1 hb2
        go_wp2_with fail
        refine c3.mono ?_
        rintro e w5 ⟨rfl, hd⟩
        have hb5 := hb4.trans ((drawn_below hd).mono hb4.size)
        go_wp2
        go_ret
        exact ⟨ret_bool HT.out.symm, hb5⟩
  · rw [decide_eq_false hid, Bool.false_and] at HT
    have hne : ((id : Int) == (id2 : Int)) = false := by simp only [beq_eq_false_iff_ne, ne_eq]; omega
    go_enter Tryz.func176, Tryz.ntmps176
    go_wp2
    go_ret
    exact ⟨ret_bool HT.out.symm, hbz⟩
set_option maxRecDepth 100000 in
set_option maxHeartbeats 1000000 in
theorem rvsame_any (x y : Vw) (B B' : Nat) (w : World) (t : Bool) (h : VwIn w B x) (h' : VwIn w B' y) (hB : B ≤ w.heap.size) (hB' : B' ≤ w.heap.size) (ht : t = true ↔ x.v = y.v) :
    Calls Tryz.prog 10 #[.agg #[.int .u64 x.id, .slice x.A x.m x.c, .slice x.B x.d x.e, .slice x.C x.f x.g], .agg #[.int .u64 y.id, .slice y.A y.m y.c, .slice y.B y.d y.e, .slice y.C y.f y.g]] w fun e w' => e = .returned (.bool t) ∧ Below w.heap.size w w' := by
  rw [vi_eq] at ht
  simp only [Vw.v] at ht
  have v0 := (VAt.mk_ w x).alloc (.cells #[.int .u64 y.id, .slice y.A y.m y.c, .slice y.B y.d y.e, .slice y.C y.f y.g] 26)
  have v1 := VAt.mk_ (w.alloc (.cells #[.int .u64 x.id, .slice x.A x.m x.c, .slice x.B x.d x.e, .slice x.C x.f x.g] 26)) y
  simp only [World.size_alloc] at v1
  have hbz : Below w.heap.size w ((w.alloc (.cells #[.int .u64 x.id, .slice x.A x.m x.c, .slice x.B x.d x.e, .slice x.C x.f x.g] 26)).alloc (.cells #[.int .u64 y.id, .slice y.A y.m y.c, .slice y.B y.d y.e, .slice y.C y.f y.g] 26)) := ((Below.refl _ _).alloc (Nat.le_refl _) _).alloc (by simp) _
  have c1 := samep_any x.A y.A x.m y.m x.c y.c x.l y.l B B' _ (h.below (hbz.mono hB)).es (h'.below (hbz.mono hB')).es (Nat.le_trans h.mc h.room) (Nat.le_trans h'.mc h'.room)
  have c3 := fun W (hb : Below w.heap.size w W) => samep_any x.C y.C x.f y.f x.g y.g x.r y.r B B' W (h.below (hb.mono hB)).dr (h'.below (hb.mono hB')).dr (Nat.le_trans h.fg h.room3) (Nat.le_trans h'.fg h'.room3)
  obtain ⟨id, A, m, c, l, B1, d, e, q, C, f, g, r⟩ := x
  obtain ⟨id2, A2, m2, c2', l2, B2, d2, e2, q2, C2, f2, g2, r2⟩ := y
  obtain ⟨i1, i2, i3, i4, i5, i6, i7, i8, i9, i10, i11⟩ := h
  obtain ⟨o1, o2, o3, o4, o5, o6, o7, o8, o9, o10, o11⟩ := h'
  obtain ⟨k0, k1, k2, k3⟩ := v0.cells
  obtain ⟨j0, j1, j2, j3⟩ := v1.cells
  dsimp only at *
  have hd63 := Nat.le_trans i6 i7
  unfold maxLen at hd63
  have hl1 := i5.len
  have hl2 := o5.len
  obtain ⟨u1, hu1⟩ : ∃ u, u = decide (l = l2) := ⟨_, rfl⟩
  obtain ⟨u3, hu3⟩ : ∃ u, u = decide (r = r2) := ⟨_, rfl⟩
  rw [← hu1] at c1
  simp only [← hu3] at c3
  obtain ⟨lv, hlv⟩ : ∃ z, z = q.map Lf.l := ⟨_, rfl⟩
  obtain ⟨lv', hlv'⟩ : ∃ z, z = q2.map Lf.l := ⟨_, rfl⟩
  rw [← hlv, ← hlv'] at ht
  have hm1 : lv.length = d := by rw [hlv, List.length_map, hl1]
  have hm2 : lv'.length = d2 := by rw [hlv', List.length_map, hl2]
  have hat : ∀ k (h1 : k < q.length) (h2 : k < lv.length), lv[k] = q[k].l := fun k h1 h2 => by simp [hlv]
  have hat' : ∀ k (h1 : k < q2.length) (h2 : k < lv'.length), lv'[k] = q2[k].l := fun k h1 h2 => by simp [hlv']
  have HT := hide (And.intro ht (And.intro hu1 hu3))
  have HL := hide (And.intro hm1 (And.intro hm2 (And.intro hl1 hl2)))
  have HAT := hide (And.intro hat hat')
  have HIN := hide (And.intro i8 o8)
  have s0 := SamL.start lv lv'
  clear ht hu1 hu3 hlv hlv' hat hat' hl1 hl2 i8 o8
  go_enter Tryz.func10, Tryz.ntmps10
  by_cases hid : ¬ id = id2
  · have hf := not_of_iff HT.out.1 (fun h => hid h.1)
    have HF := hide hf
    have hne : ((id : Int) != (id2 : Int)) = true := by simp only [bne_iff_ne, ne_eq]; omega
    clear hf
    go_wp2
    go_ret
    exact ⟨ret_bool HF.out.symm, hbz⟩
  obtain rfl : id = id2 := Decidable.of_not_not hid
  generalize hw2 : ((w.alloc (.cells #[.int .u64 id, .slice A m c, .slice B1 d e, .slice C f g] 26)).alloc (.cells #[.int .u64 id, .slice A2 m2 c2', .slice B2 d2 e2, .slice C2 f2 g2] 26)) = w2 at *
  cases u1
  · have hf := not_of_iff HT.out.1 (fun h => by have := of_decide_eq_false HT.out.2.1.symm; exact this h.2.1)
    have HF := hide hf
    clear hf
    go_wp2_with fail
    refine c1.mono ?_
    rintro e w3 ⟨rfl, hd⟩
    have hb3 := hbz.trans ((drawn_below hd).mono hbz.size)
    clear hw2
    go_wp2
    go_ret
    exact ⟨ret_bool HF.out.symm, hb3⟩
  have hq1 := of_decide_eq_true HT.out.2.1.symm
  go_wp2_with fail
  refine c1.mono ?_
  rintro e w3 ⟨rfl, hd⟩
  have hb1 : Below w2.heap.size w2 w3 := drawn_below hd
  have hb3 := hbz.trans (hb1.mono hbz.size)
  have v03 := v0.later hb1
  have v13 := v1.later hb1
  have c3 := c3 w3 hb3
  clear k0 k1 k2 k3 j0 j1 j2 j3 hw2 hd hb1 hbz v0 v1 c1
  obtain ⟨k0, k1, k2, k3⟩ := v03.cells
  obtain ⟨j0, j1, j2, j3⟩ := v13.cells
  dsimp only at k0 k1 k2 k3 j0 j1 j2 j3
  cases u3
  · have hf := not_of_iff HT.out.1 (fun h => by have := of_decide_eq_false HT.out.2.2.symm; exact this h.2.2.2)
    have HF := hide hf
    clear hf hq1
    go_wp2_with fail
    refine c3.mono ?_
    rintro e w4 ⟨rfl, hd⟩
    have hb4 := hb3.trans ((drawn_below hd).mono hb3.size)
    go_wp2
    go_ret
    exact ⟨ret_bool HF.out.symm, hb4⟩
  have hq3 := of_decide_eq_true HT.out.2.2.symm
  go_wp2_with fail
  refine c3.mono ?_
  rintro e w4 ⟨rfl, hd⟩
  have hb1 : Below w3.heap.size w3 w4 := drawn_below hd
  have hb4 := hb3.trans (hb1.mono hb3.size)
  have v04 := v03.later hb1
  have v14 := v13.later hb1
  clear k0 k1 k2 k3 j0 j1 j2 j3 hd hb1 hb3 v03 v13 c3
  obtain ⟨k0, k1, k2, k3⟩ := v04.cells
  obtain ⟨j0, j1, j2, j3⟩ := v14.cells
  dsimp only at k0 k1 k2 k3 j0 j1 j2 j3
  by_cases hdd : ¬ d = d2
  · have hf := not_of_iff HT.out.1 (fun h => hdd (by rw [← hm1, ← hm2, h.2.2.1]))
    have HF := hide hf
    have hne : ((d : Int) != (d2 : Int)) = true := by simp only [bne_iff_ne, ne_eq]; omega
    clear hf hq1 hq3 hm1 hm2
    go_wp2
    go_ret
    exact ⟨ret_bool HF.out.symm, hb4⟩
  obtain rfl : d = d2 := Decidable.of_not_not hdd
  have HQ := hide (And.intro hq1 hq3)
  clear hq1 hq3 hm1 hm2
  go_wp2
  clear k0 k1 k2 k3 j0 j1 j2 j3
  go_loopw [5] (fun i wr => ∃ j : Nat, j ≤ d ∧ i = .int .i64 j ∧ SamL lv lv' j ∧ VAt wr w.heap.size ⟨id, A, m, c, l, B1, d, e, q, C, f, g, r⟩ ∧ VAt wr (w.heap.size + 1) ⟨id, A2, m2, c2', l2, B2, d, e2, q2, C2, f2, g2, r2⟩ ∧ Below w.heap.size w wr) (fun i _ => d - (intOf i).toNat)
  case atStart => exact ⟨0, Nat.zero_le _, rfl, s0, v04, v14, hb4⟩
  case round =>
    clear s0 v04 v14 hb4
    obtain ⟨j, hj, rfl, hsame, vx, vy, hb⟩ := hrel
    obtain ⟨k0, k1, k2, k3⟩ := vx.cells
    obtain ⟨j0, j1, j2, j3⟩ := vy.cells
    dsimp only at k0 k1 k2 k3 j0 j1 j2 j3
    by_cases hlt : j < d
    · obtain ⟨ad, hl, rfl, hbl, hc⟩ := (i5.below (hb.mono hB)).at_ lfOk hlt
      obtain ⟨ad', hl', rfl, hbl', hc'⟩ := (o5.below (hb.mono hB')).at_ lfOk hlt
      have x1 : j < lv.length := by rw [HL.out.1]; exact hlt
      have x2 : j < lv'.length := by rw [HL.out.2.1]; exact hlt
      have hst := hsame.step x1 x2
      have e1 := HAT.out.1 j hl x1
      have e2' := HAT.out.2 j hl' x2
      have hne : lv[j] ≠ lv'[j] → t = false := fun h => not_of_iff HT.out.1 (fun h9 => h (by have := h9.2.2.1; subst this; rfl))
      have y1 := HIN.out.1 q[j] (List.getElem_mem hl)
      have y2 := HIN.out.2 q2[j] (List.getElem_mem hl')
      rw [e1, e2'] at hst hne
      obtain ⟨z, hz⟩ : ∃ z, z = q[j] := ⟨_, rfl⟩
      obtain ⟨z', hz'⟩ : ∃ z, z = q2[j] := ⟨_, rfl⟩
      rw [← hz] at hc hst hne y1
      rw [← hz'] at hc' hst hne y2
      have c0 := Later.cellAt (lf_at hc)
      have d0 := Later.cellAt (lf_at hc')
      have g0 := Later.cell k0
      have g1 := Later.cell k1
      have g2' := Later.cell k2
      have g3 := Later.cell k3
      have f0 := Later.cell j0
      have f1 := Later.cell j1
      have f2' := Later.cell j2
      have f3 := Later.cell j3
      have ce := fun Z : Later wr => calm_drawn (samep_any z.A z'.A z.m z'.m z.c z'.c z.l z'.l B B' Z.w (y1.below ((hb.trans (Z.below.mono hb.size)).mono hB)).es (y2.below ((hb.trans (Z.below.mono hb.size)).mono hB')).es (Nat.le_trans y1.mc y1.room) (Nat.le_trans y2.mc y2.room))
      have z1 : (0 : Int) ≤ (j : Int) := by omega
      have z2 : (j : Int) < (d : Int) := by omega
      clear hz hz' e1 e2' hc hc' y1 y2 hsame
      obtain ⟨u, hu⟩ : ∃ u, u = decide (z.l = z'.l) := ⟨_, rfl⟩
      rw [← hu] at ce
      cases u
      · have hf := hne (of_decide_eq_false hu.symm)
        have HI := hide hf
        clear hf hst hne hu
        go_wp2_with fail
        refine wp_region_calm (by kernel_rfl) (by kernel_rfl) ?_
        repeat (go_big_quiet_step (first | (go_at_call 36; with_reducible exact ce _)))
        refine wpQuiet_nil ?_
        rintro _ ⟨x9, rfl⟩
        have hb9 := x9.below
        generalize x9.w = w9 at hb9 ⊢
        have hb10 := hb.trans (hb9.mono hb.size)
        clear ce c0 d0 g0 g1 g2' g3 f0 f1 f2' f3 k0 k1 k2 k3 j0 j1 j2 j3
        go_wp2
        go_ret
        exact ⟨ret_bool HI.out.symm, hb10⟩
      · have hs := hst (of_decide_eq_true hu.symm)
        have HS := hide hs
        clear hs hst hne hu
        go_wp2_with fail
        refine wp_region_calm (by kernel_rfl) (by kernel_rfl) ?_
        repeat (go_big_quiet_step (first | (go_at_call 36; with_reducible exact ce _)))
        refine wpQuiet_nil ?_
        rintro _ ⟨x9, rfl⟩
        have hb9 := x9.below
        generalize x9.w = w9 at hb9 ⊢
        have hb10 := hb.trans (hb9.mono hb.size)
        have vx9 := vx.later hb9
        have vy9 := vy.later hb9
        clear ce c0 d0 g0 g1 g2' g3 f0 f1 f2' f3 k0 k1 k2 k3 j0 j1 j2 j3
        go_wp2
        go_roundw
        case rel => exact ⟨j + 1, by omega, by go_num, HS.out, vx9, vy9, hb10⟩
        case measure => simp [intOf]; omega
    · have hf : t = true := HT.out.1.2 ⟨by first | rfl | trivial, HQ.out.1, hsame.done (by rw [HL.out.1]; omega) (by rw [HL.out.2.1]; omega), HQ.out.2⟩
      have HI := hide hf
      clear hf
      go_wp2
      go_ret
      exact ⟨ret_bool HI.out.symm, hb⟩
end Go.Proofs.YtjmkecaljkcoiaaGreatDoor
