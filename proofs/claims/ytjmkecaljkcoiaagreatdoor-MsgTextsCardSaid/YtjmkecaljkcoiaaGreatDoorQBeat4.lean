import Derived.Test.YtjmkecaljkcoiaaGreatDoorQBeat3
namespace Go.Proofs.YtjmkecaljkcoiaaGreatDoor
open Go.RowKit Go.Maps
set_option linter.unusedVariables false
set_option linter.unusedSimpArgs false
theorem rahead_pr (p q : Pr) (w : World) :
    Calls Tryz.prog 124 #[.agg #[.int .u16 p.i, .int .u32 p.k], .agg #[.int .u16 q.i, .int .u32 q.k]] w fun e w' => e = .returned (.bool (aheadP p q)) ∧ Below w.heap.size w w' :=
  rahead_any p.i p.k q.i q.k w p.hi p.hk q.hi q.hk
set_option maxRecDepth 100000 in
set_option maxHeartbeats 2000000 in
theorem rcheckbeat_any (x : Bx) (B : Nat) (w : World) (t : Bool) (h : BxIn w B x) (hB : B ≤ w.heap.size) (ht : t = true ↔ MayB x.m) :
    Calls Tryz.prog 79 #[.agg #[.int .u64 x.v, .int .u64 x.a, .int .u64 x.l, .int .u64 x.s, .slice x.A x.n x.c]] w fun e w' => e = .returned (.bool t) ∧ Below w.heap.size w w' := by
  have v0 := BAt.mk_ w x
  have hbz : Below w.heap.size w (w.alloc (.cells #[.int .u64 x.v, .int .u64 x.a, .int .u64 x.l, .int .u64 x.s, .slice x.A x.n x.c] 59)) := (Below.refl _ _).alloc (Nat.le_refl _) _
  have hA := (h.below (hbz.mono hB)).es
  have hnn := Nat.le_trans h.nc h.room
  unfold maxLen at hnn
  have hlen := h.es.len
  have hB1 : B ≤ (w.alloc (.cells #[.int .u64 x.v, .int .u64 x.a, .int .u64 x.l, .int .u64 x.s, .slice x.A x.n x.c] 59)).heap.size := Nat.le_trans hB hbz.size
  have HL := hide hlen
  have HT := hide ht
  have hu0 := UpTo.start x.q
  clear ht hlen h
  go_enter Tryz.func79, Tryz.ntmps79
  obtain ⟨k0, k1, k2, k3, k4⟩ := v0.cells
  generalize hw1 : w.alloc (.cells #[.int .u64 x.v, .int .u64 x.a, .int .u64 x.l, .int .u64 x.s, .slice x.A x.n x.c] 59) = w1 at *
  by_cases h0 : x.v ≤ 4611686018427387904
  case neg =>
    have x1 : decide ((4611686018427387904 : Int) < (x.v : Int)) = true := decide_eq_true (by omega)
    have HF := hide (not_of_iff HT.out (fun e => h0 e.v))
    clear h0
    go_wp2
    go_ret
    exact ⟨ret_bool HF.out.symm, hbz⟩
  have z0 : decide ((4611686018427387904 : Int) < (x.v : Int)) = false := decide_eq_false (by omega)
  have H0 := hide h0
  clear h0
  by_cases h1 : x.a ≤ 4611686018427387904
  case neg =>
    have x1 : decide ((4611686018427387904 : Int) < (x.a : Int)) = true := decide_eq_true (by omega)
    have HF := hide (not_of_iff HT.out (fun e => h1 e.a))
    clear h1
    go_wp2
    go_ret
    exact ⟨ret_bool HF.out.symm, hbz⟩
  have z1 : decide ((4611686018427387904 : Int) < (x.a : Int)) = false := decide_eq_false (by omega)
  have H1 := hide h1
  clear h1
  by_cases h2 : x.l ≤ 4611686018427387904
  case neg =>
    have x1 : decide ((4611686018427387904 : Int) < (x.l : Int)) = true := decide_eq_true (by omega)
    have HF := hide (not_of_iff HT.out (fun e => h2 e.l))
    clear h2
    go_wp2
    go_ret
    exact ⟨ret_bool HF.out.symm, hbz⟩
  have z2 : decide ((4611686018427387904 : Int) < (x.l : Int)) = false := decide_eq_false (by omega)
  have H2 := hide h2
  clear h2
  by_cases h3 : x.s ≤ 4611686018427387904
  case neg =>
    have x1 : decide ((4611686018427387904 : Int) < (x.s : Int)) = true := decide_eq_true (by omega)
    have HF := hide (not_of_iff HT.out (fun e => h3 e.s))
    clear h3
    go_wp2
    go_ret
    exact ⟨ret_bool HF.out.symm, hbz⟩
  have z3 : decide ((4611686018427387904 : Int) < (x.s : Int)) = false := decide_eq_false (by omega)
  have H3 := hide h3
  clear h3
  by_cases h4 : x.n ≤ 24
  case neg =>
    have x1 : decide ((24 : Int) < (x.n : Int)) = true := decide_eq_true (by omega)
    have HF := hide (not_of_iff HT.out (fun e => h4 (by have := e.n; change x.q.length ≤ 24 at this; rw [HL.out] at this; exact this)))
    clear h4
    go_wp2
    go_ret
    exact ⟨ret_bool HF.out.symm, hbz⟩
  have z4 : decide ((24 : Int) < (x.n : Int)) = false := decide_eq_false (by omega)
  have H4 := hide h4
  clear h4
  have HU := hide (show t = true ↔ UpTo x.q x.q.length from ⟨fun e => (HT.out.1 e).up, fun e => HT.out.2 ⟨H0.out, H1.out, H2.out, H3.out, by show x.q.length ≤ 24; rw [HL.out]; exact H4.out, e⟩⟩)
  have V0 := hide v0
  clear v0
  obtain ⟨v, a, lo, s, A, n, c, l⟩ := x
  dsimp only at *
  go_wp2
  clear k0 k1 k2 k3 k4 z0 z1 z2 z3 z4
  go_loopw [3] (fun i wr => ∃ j : Nat, j ≤ n ∧ i = .int .i64 j ∧ UpTo l j ∧ Below w1.heap.size w1 wr) (fun i _ => n - (intOf i).toNat)
  case atStart => exact ⟨0, Nat.zero_le _, rfl, hu0, Below.refl _ _⟩
  case round =>
    obtain ⟨j, hj, rfl, hto, hb⟩ := hrel
    have hb1 := hbz.trans (hb.mono hbz.size)
    have v1 := V0.out.later hb
    have f4 := v1.cells.2.2.2.2
    dsimp only at f4
    have q4 := Later.cell f4
    clear hu0
    by_cases hlt : j < n
    · have hA1 := hA.below (hb.mono hB1)
      obtain ⟨ad, hl, rfl, hbl, hcc⟩ := hA1.at_ prOk hlt
      have s0 := fun h1 => UpTo.gone hl h1
      have s2 : j = 0 → mayP l[j] = true → UpTo l (j + 1) := fun e h1 => by subst e; exact UpTo.one hl h1
      have s3 := fun m (e : j = m + 1) => (by subst e; exact ⟨fun h1 => UpTo.low hl h1, fun h1 h2 => hto.step hl h1 h2⟩ : (aheadP (l[m]'(by omega)) l[j] = false → ¬ UpTo l l.length) ∧ (mayP l[j] = true → aheadP (l[m]'(by omega)) l[j] = true → UpTo l (j + 1)))
      obtain ⟨p, hp⟩ : ∃ p, p = l[j] := ⟨_, rfl⟩
      rw [← hp] at hcc s0 s2
      simp only [← hp] at s3
      obtain ⟨c0, c1⟩ := pr_at hcc
      have e0 := Later.cellAt c0
      have e1 := Later.cellAt c1
      have z1 : (0 : Int) ≤ (j : Int) := by omega
      have z2 : (j : Int) < (n : Int) := by omega
      have cm := fun x : Later wr => calm_of (rmay_any p x.w)
      clear hcc hto hp
      cases hm : mayP p
      · rw [hm] at cm
        have ca := cm
        clear s2 s3 hA1
        have HF := hide (not_of_iff HU.out (s0 hm))
        go_wp2_with fail
        refine wp_region_calm (by kernel_rfl) (by kernel_rfl) ?_
        repeat (go_big_quiet_step (first | (go_at_call 41; with_reducible exact cm _) | (go_at_call 124; with_reducible exact ca _)))
        refine wpQuiet_nil ?_
        rintro _ ⟨x9, rfl⟩
        have hb9 := x9.below
        generalize x9.w = w9 at hb9 ⊢
        have hb10 := hb1.trans (hb9.mono hb1.size)
        have hb11 := hb.trans (hb9.mono hb.size)
        clear cm e0 e1 hb9
        go_wp2
        go_ret
        exact ⟨ret_bool HF.out.symm, hb10⟩
      · rw [hm] at cm
        clear s0
        by_cases hj0 : j = 0
        · have hyes := s2 hj0 hm
          subst hj0
          have ca := cm
          rw [add_z] at e0 e1 c0 c1
          simp only [Int.natCast_zero] at *
          clear s2 s3 hA1
          have HS := hide (hyes)
          go_wp2_with fail
          refine wp_region_calm (by kernel_rfl) (by kernel_rfl) ?_
          repeat (go_big_quiet_step (first | (go_at_call 41; with_reducible exact cm _) | (go_at_call 124; with_reducible exact ca _)))
          refine wpQuiet_nil ?_
          rintro _ ⟨x9, rfl⟩
          have hb9 := x9.below
          generalize x9.w = w9 at hb9 ⊢
          have hb10 := hb1.trans (hb9.mono hb1.size)
          have hb11 := hb.trans (hb9.mono hb.size)
          clear cm e0 e1 hb9
          go_wp2
          go_roundw
          case rel => exact ⟨1, by omega, by go_num, HS.out, hb11⟩
          case measure => simp [intOf]; omega
        · obtain ⟨m, rfl⟩ : ∃ m, j = m + 1 := ⟨j - 1, by omega⟩
          obtain ⟨ad', hl', had', _, hcc'⟩ := hA1.at_ prOk (show m < n by omega)
          obtain rfl : ad = ad' := by injection had'
          have s4 := s3 m rfl
          obtain ⟨p0, hp0⟩ : ∃ p, p = l[m] := ⟨_, rfl⟩
          rw [← hp0] at hcc' s4
          obtain ⟨d2, d3⟩ := pr_at hcc'
          have e2 := Later.cellAt d2
          have e3 := Later.cellAt d3
          have ca := fun x : Later wr => calm_of (rahead_pr p0 p x.w)
          have y0 : decide ((0 : Int) < ((m + 1 : Nat) : Int)) = true := decide_eq_true (by omega)
          have y1 : ((m + 1 : Nat) : Int) - 1 = (m : Int) := by omega
          have y2 : (m : Int) < (n : Int) := by omega
          have y3 : (0 : Int) ≤ (m : Int) := by omega
          clear s2 s3 hA1 hcc' d2 d3 hp0 had'
          cases ha : aheadP p0 p
          · rw [ha] at ca
            have HF := hide (not_of_iff HU.out (s4.1 ha))
            go_wp2_with fail
            refine wp_region_calm (by kernel_rfl) (by kernel_rfl) ?_
            repeat (go_big_quiet_step (first | (go_at_call 41; with_reducible exact cm _) | (go_at_call 124; with_reducible exact ca _)))
            refine wpQuiet_nil ?_
            rintro _ ⟨x9, rfl⟩
            have hb9 := x9.below
            generalize x9.w = w9 at hb9 ⊢
            have hb10 := hb1.trans (hb9.mono hb1.size)
            have hb11 := hb.trans (hb9.mono hb.size)
            clear cm e0 e1 hb9
            go_wp2
            go_ret
            exact ⟨ret_bool HF.out.symm, hb10⟩
          · rw [ha] at ca
            have HS := hide (s4.2 hm ha)
            go_wp2_with fail
            refine wp_region_calm (by kernel_rfl) (by kernel_rfl) ?_
            repeat (go_big_quiet_step (first | (go_at_call 41; with_reducible exact cm _) | (go_at_call 124; with_reducible exact ca _)))
            refine wpQuiet_nil ?_
            rintro _ ⟨x9, rfl⟩
            have hb9 := x9.below
            generalize x9.w = w9 at hb9 ⊢
            have hb10 := hb1.trans (hb9.mono hb1.size)
            have hb11 := hb.trans (hb9.mono hb.size)
            clear cm e0 e1 hb9
            go_wp2
            go_roundw
            case rel => exact ⟨m + 2, by omega, by go_num, HS.out, hb11⟩
            case measure => simp [intOf]; omega
    · have HD := hide (HU.out.2 (hto.done (by rw [HL.out]; omega)))
      clear hto
      go_wp2
      go_ret
      exact ⟨ret_bool HD.out.symm, hb1⟩
end Go.Proofs.YtjmkecaljkcoiaaGreatDoor
