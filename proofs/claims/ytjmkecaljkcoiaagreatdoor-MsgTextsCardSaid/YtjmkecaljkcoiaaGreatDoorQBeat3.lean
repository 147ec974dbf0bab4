import Derived.Test.YtjmkecaljkcoiaaGreatDoorQViewT
import Derived.Test.YtjmkecaljkcoiaaGreatDoorQView4
import Derived.Test.YtjmkecaljkcoiaaGreatDoorQSortM
import Derived.Test.YtjmkecaljkcoiaaGreatDoorQViewD
namespace Go.Proofs.YtjmkecaljkcoiaaGreatDoor
open Go.RowKit Go.Maps
set_option linter.unusedVariables false
set_option linter.unusedSimpArgs false
def aheadP (p q : Pr) : Bool := aheadB p.i p.k q.i q.k
structure UpTo (l : List Pr) (j : Nat) : Prop where
  may : ∀ k (h : k < l.length), k < j → mayP l[k] = true
  up : ∀ k (h : k + 1 < l.length), k + 1 < j → aheadP l[k] l[k + 1] = true
theorem UpTo.start (l : List Pr) : UpTo l 0 := ⟨fun k h hk => absurd hk (by omega), fun k h hk => absurd hk (by omega)⟩
theorem UpTo.one {l : List Pr} (h : 0 < l.length) (hm : mayP l[0] = true) : UpTo l 1 :=
  ⟨fun k hk hj => by obtain rfl : k = 0 := by omega
                     exact hm, fun k hk hj => absurd hj (by omega)⟩
theorem UpTo.step {l : List Pr} {m : Nat} (hu : UpTo l (m + 1)) (h : m + 1 < l.length) (hm : mayP l[m + 1] = true) (ha : aheadP l[m] l[m + 1] = true) : UpTo l (m + 2) :=
  ⟨fun k hk hj => by
    by_cases e : k = m + 1
    · subst e; exact hm
    · exact hu.may k hk (by omega), fun k hk hj => by
    by_cases e : k = m
    · subst e; exact ha
    · exact hu.up k hk (by omega)⟩
theorem UpTo.gone {l : List Pr} {j : Nat} (h : j < l.length) (hm : mayP l[j] = false) : ¬ UpTo l l.length := fun e => by rw [e.may j h h] at hm; cases hm
theorem UpTo.low {l : List Pr} {m : Nat} (h : m + 1 < l.length) (hm : aheadP l[m] l[m + 1] = false) : ¬ UpTo l l.length := fun e => by rw [e.up m h h] at hm; cases hm
theorem UpTo.done {l : List Pr} {j : Nat} (h : UpTo l j) (hj : l.length ≤ j) : UpTo l l.length := ⟨fun k h1 h2 => h.may k h1 (by omega), fun k h1 h2 => h.up k h1 (by omega)⟩
structure MayB (b : Bt) : Prop where
  v : b.v ≤ 4611686018427387904
  a : b.a ≤ 4611686018427387904
  l : b.l ≤ 4611686018427387904
  s : b.s ≤ 4611686018427387904
  n : b.q.length ≤ 24
  up : UpTo b.q b.q.length
theorem ahead_pr (p q : Pr) (w : World) :
    Calls Tryz.prog 179 #[.agg #[.int .u16 p.i, .int .u32 p.k], .agg #[.int .u16 q.i, .int .u32 q.k]] w fun e w' => e = .returned (.bool (aheadP p q)) ∧ Below w.heap.size w w' :=
  ahead_any p.i p.k q.i q.k w p.hi p.hk q.hi q.hk
set_option maxRecDepth 100000 in
theorem mayrise_any (A : Option Addr) (n c : Nat) (l : List Pr) (B : Nat) (w : World) (t : Bool) (hA : Es prC w B A n l) (hB : B ≤ w.heap.size) (hn : n ≤ maxLen) (ht : t = true ↔ UpTo l l.length) :
    Calls Tryz.prog 123 #[.slice A n c] w fun e w' => e = .returned (.bool t) ∧ Below w.heap.size w w' := by
  unfold maxLen at hn
  have hlen := hA.len
  have HL := hide hlen
  have HT := hide ht
  clear hlen ht
  have h0 := UpTo.start l
  go_enter Tryz.func123, Tryz.ntmps123
  go_wp2
  go_loopw [7] (fun i wr => ∃ j : Nat, j ≤ n ∧ i = .int .i64 j ∧ UpTo l j ∧ Below w.heap.size w wr) (fun i _ => n - (intOf i).toNat)
  case atStart => exact ⟨0, Nat.zero_le _, rfl, h0, Below.refl _ _⟩
  case round =>
    obtain ⟨j, hj, rfl, hto, hb⟩ := hrel
    clear h0
    by_cases hlt : j < n
    · have hAr := hA.below (hb.mono hB)
      obtain ⟨ad, hl, rfl, hbl, hcc⟩ := hAr.at_ prOk hlt
      have s0 := fun h1 => UpTo.gone hl h1
      have s2 : j = 0 → mayP l[j] = true → UpTo l (j + 1) := fun e h1 => by subst e; exact UpTo.one hl h1
      have s3 := fun m (e : j = m + 1) => (by subst e; exact ⟨fun h1 => UpTo.low hl h1, fun h1 h2 => hto.step hl h1 h2⟩ : (aheadP (l[m]'(by omega)) l[j] = false → ¬ UpTo l l.length) ∧ (mayP l[j] = true → aheadP (l[m]'(by omega)) l[j] = true → UpTo l (j + 1)))
      obtain ⟨p, hp⟩ : ∃ p, p = l[j] := ⟨_, rfl⟩
      rw [← hp] at hcc s0 s2
      simp only [← hp] at s3
      obtain ⟨c0, c1⟩ := pr_at hcc
      have hb1 : Below w.heap.size w (wr.alloc (.cells #[.int .u16 p.i, .int .u32 p.k] 44)) := hb.alloc hb.size _
      have u0 : (wr.alloc (.cells #[.int .u16 p.i, .int .u32 p.k] 44)).cell? ⟨wr.heap.size, 0, none⟩ = some (.int .u16 p.i) := by go_simp
      have u1 : (wr.alloc (.cells #[.int .u16 p.i, .int .u32 p.k] 44)).cell? ⟨wr.heap.size, 1, none⟩ = some (.int .u32 p.k) := by go_simp
      have hA1 := hA.below (hb1.mono hB)
      clear hcc hAr hto hp
      go_wp2_with fail
      generalize wr.alloc (.cells #[.int .u16 p.i, .int .u32 p.k] 44) = w1 at *
      have e0 := Later.cell u0
      have e1 := Later.cell u1
      have cm := fun x : Later w1 => calm_of (may_any p x.w)
      clear c0 c1 u0 u1
      cases hm : mayP p
      · rw [hm] at cm
        have ca := cm
        clear s2 s3 hA1
        have HF := hide (not_of_iff HT.out (s0 hm))
        refine wp_region_calm (by kernel_rfl) (by kernel_rfl) ?_
        repeat (go_big_quiet_step (first | (go_at_call 125; with_reducible exact cm _) | (go_at_call 179; with_reducible exact ca _)))
        refine wpQuiet_nil ?_
        rintro _ ⟨x9, rfl⟩
        have hb9 := x9.below
        generalize x9.w = w9 at hb9 ⊢
        have hb10 := hb1.trans (hb9.mono hb1.size)
        clear cm e0 e1 hb9
        go_wp2
        go_ret
        exact ⟨ret_bool HF.out.symm, hb10⟩
      · rw [hm] at cm
        clear s0
        by_cases hj0 : j = 0
        · have hyes := s2 hj0 hm
          subst hj0
          have ca := cm
          clear s2 s3 hA1
          have HS := hide (hyes)
          refine wp_region_calm (by kernel_rfl) (by kernel_rfl) ?_
          repeat (go_big_quiet_step (first | (go_at_call 125; with_reducible exact cm _) | (go_at_call 179; with_reducible exact ca _)))
          refine wpQuiet_nil ?_
          rintro _ ⟨x9, rfl⟩
          have hb9 := x9.below
          generalize x9.w = w9 at hb9 ⊢
          have hb10 := hb1.trans (hb9.mono hb1.size)
          clear cm e0 e1 hb9
          go_wp2
          go_roundw
          case rel => exact ⟨1, by omega, by go_num, HS.out, hb10⟩
          case measure => simp [intOf]; omega
        · obtain ⟨m, rfl⟩ : ∃ m, j = m + 1 := ⟨j - 1, by omega⟩
          obtain ⟨ad', hl', had', _, hcc'⟩ := hA1.at_ prOk (show m < n by omega)
          obtain rfl : ad = ad' := by injection had'
          have s4 := s3 m rfl
          obtain ⟨p0, hp0⟩ : ∃ p, p = l[m] := ⟨_, rfl⟩
          rw [← hp0] at hcc' s4
          obtain ⟨d2, d3⟩ := pr_at hcc'
          have e2 := Later.cellAt d2
          have e3 := Later.cellAt d3
          have ca := fun x : Later w1 => calm_of (ahead_pr p0 p x.w)
          have y0 : decide ((0 : Int) < ((m + 1 : Nat) : Int)) = true := decide_eq_true (by omega)
          have y1 : ((m + 1 : Nat) : Int) - 1 = (m : Int) := by omega
          have y2 : (m : Int) < (n : Int) := by omega
          have y3 : (0 : Int) ≤ (m : Int) := by omega
          clear s2 s3 hA1 hcc' d2 d3 hp0 had'
          cases ha : aheadP p0 p
          · rw [ha] at ca
            have HF := hide (not_of_iff HT.out (s4.1 ha))
            refine wp_region_calm (by kernel_rfl) (by kernel_rfl) ?_
            repeat (go_big_quiet_step (first | (go_at_call 125; with_reducible exact cm _) | (go_at_call 179; with_reducible exact ca _)))
            refine wpQuiet_nil ?_
            rintro _ ⟨x9, rfl⟩
            have hb9 := x9.below
            generalize x9.w = w9 at hb9 ⊢
            have hb10 := hb1.trans (hb9.mono hb1.size)
            clear cm e0 e1 hb9
            go_wp2
            go_ret
            exact ⟨ret_bool HF.out.symm, hb10⟩
          · rw [ha] at ca
            have HS := hide (s4.2 hm ha)
            refine wp_region_calm (by kernel_rfl) (by kernel_rfl) ?_
            repeat (go_big_quiet_step (first | (go_at_call 125; with_reducible exact cm _) | (go_at_call 179; with_reducible exact ca _)))
            refine wpQuiet_nil ?_
            rintro _ ⟨x9, rfl⟩
            have hb9 := x9.below
            generalize x9.w = w9 at hb9 ⊢
            have hb10 := hb1.trans (hb9.mono hb1.size)
            clear cm e0 e1 hb9
            go_wp2
            go_roundw
            case rel => exact ⟨m + 2, by omega, by go_num, HS.out, hb10⟩
            case measure => simp [intOf]; omega
    · have hd := HT.out.2 (hto.done (by rw [HL.out]; omega))
      have HD := hide hd
      clear hd hto
      go_wp2
      go_ret
      exact ⟨ret_bool HD.out.symm, hb⟩
end Go.Proofs.YtjmkecaljkcoiaaGreatDoor
namespace Go.Proofs.YtjmkecaljkcoiaaGreatDoor
open Go.RowKit Go.Maps
set_option linter.unusedVariables false
set_option linter.unusedSimpArgs false
set_option maxRecDepth 100000 in
theorem numbers_any (x : Bx) (w : World) :
    Calls Tryz.prog 78 #[.agg #[.int .u64 x.v, .int .u64 x.a, .int .u64 x.l, .int .u64 x.s, .slice x.A x.n x.c]] w fun e w' =>
      e = .returned (.agg #[.int .u64 x.v, .int .u64 x.a, .int .u64 x.l, .int .u64 x.s]) ∧ Below w.heap.size w w' := by
  go_enter Tryz.func78, Tryz.ntmps78
  go_wp2
  refine bodyPost_ret (v := .agg #[.int .u64 x.v, .int .u64 x.a, .int .u64 x.l, .int .u64 x.s]) (by simp [results, Tryz.results78, go_sem]) rfl ⟨rfl, ?_⟩
  have h0 : Below w.heap.size w (w.alloc (.cells #[.int .u64 x.v, .int .u64 x.a, .int .u64 x.l, .int .u64 x.s, .slice x.A x.n x.c] 59)) := (Below.refl _ _).alloc (Nat.le_refl _) _
  repeat (first | exact (h0.alloc (by simp) _) | refine Below.setCell ?_ (by simp) _ | refine Below.setRow ?_ (by simp) _)
set_option maxRecDepth 100000 in
theorem maybeat_any (x : Bx) (B : Nat) (w : World) (t : Bool) (h : BxIn w B x) (hB : B ≤ w.heap.size) (ht : t = true ↔ MayB x.m) :
    Calls Tryz.prog 77 #[.agg #[.int .u64 x.v, .int .u64 x.a, .int .u64 x.l, .int .u64 x.s, .slice x.A x.n x.c]] w fun e w' => e = .returned (.bool t) ∧ Below w.heap.size w w' := by
  obtain ⟨u, hu⟩ : ∃ u : Bool, (u = true ↔ UpTo x.q x.q.length) := by
    by_cases e : UpTo x.q x.q.length
    · exact ⟨true, ⟨fun _ => e, fun _ => rfl⟩⟩
    · exact ⟨false, ⟨fun h => absurd h (by decide), fun h => absurd h e⟩⟩
  have cn := numbers_any x
  have hbw : Below w.heap.size w (w.alloc (.cells #[.int .u64 x.v, .int .u64 x.a, .int .u64 x.l, .int .u64 x.s, .slice x.A x.n x.c] 59)) := (Below.refl _ _).alloc (Nat.le_refl _) _
  have ha := fun W (hb : Below w.heap.size w W) => mayrise_any x.A x.n x.c x.q B W u (h.es.below (hb.mono hB)) (Nat.le_trans hB hb.size) (Nat.le_trans h.nc h.room) hu
  have hlen := h.es.len
  have HL := hide hlen
  have HA := hide ha
  have HT := hide (And.intro ht hu)
  clear ht hu ha hlen h
  have b0 : (w.alloc (.cells #[.int .u64 x.v, .int .u64 x.a, .int .u64 x.l, .int .u64 x.s, .slice x.A x.n x.c] 59)).cell? ⟨w.heap.size, 4, none⟩ = some (.slice x.A x.n x.c) := by go_simp
  have k0 : ∀ w, (Instr.index 121 (.agg #[.int .u64 x.v, .int .u64 x.a, .int .u64 x.l, .int .u64 x.s]) (.int .i64 0)).run Tryz.prog w = .ok (.int .u64 x.v) w := fun w => by simp [Instr.index, go_sem, asIntOf, part]
  have k1 : ∀ w, (Instr.index 121 (.agg #[.int .u64 x.v, .int .u64 x.a, .int .u64 x.l, .int .u64 x.s]) (.int .i64 1)).run Tryz.prog w = .ok (.int .u64 x.a) w := fun w => by simp [Instr.index, go_sem, asIntOf, part]
  have k2 : ∀ w, (Instr.index 121 (.agg #[.int .u64 x.v, .int .u64 x.a, .int .u64 x.l, .int .u64 x.s]) (.int .i64 2)).run Tryz.prog w = .ok (.int .u64 x.l) w := fun w => by simp [Instr.index, go_sem, asIntOf, part]
  have k3 : ∀ w, (Instr.index 121 (.agg #[.int .u64 x.v, .int .u64 x.a, .int .u64 x.l, .int .u64 x.s]) (.int .i64 3)).run Tryz.prog w = .ok (.int .u64 x.s) w := fun w => by simp [Instr.index, go_sem, asIntOf, part]
  go_enter Tryz.func77, Tryz.ntmps77
  go_wp2_with fail
  refine (cn _).mono ?_
  rintro e w1 ⟨rfl, hb⟩
  have b1 := cellL b0 hb
  have hb1 := hbw.trans (hb.mono hbw.size)
  clear cn hb hbw b0
  go_wp2
  go_loopw [7] (fun i wr => ∃ j : Nat, j ≤ 4 ∧ i = .int .i64 j ∧ Hid ((0 < j → x.v ≤ 4611686018427387904) ∧ (1 < j → x.a ≤ 4611686018427387904) ∧ (2 < j → x.l ≤ 4611686018427387904) ∧ (3 < j → x.s ≤ 4611686018427387904)) ∧ w1 = wr) (fun i _ => 4 - (intOf i).toNat)
  case atStart => exact ⟨0, by omega, rfl, hide ⟨fun h => by omega, fun h => by omega, fun h => by omega, fun h => by omega⟩, by first | rfl | trivial⟩
  case round =>
    obtain ⟨j, hj, hi, HJ, rfl⟩ := hrel
    by_cases hlt : j < 4
    · rcases (by omega : j = 0 ∨ j = 1 ∨ j = 2 ∨ j = 3) with rfl | rfl | rfl | rfl
      · have hi2 : _ = Value.int .i64 (0 : Int) := hi
        subst hi2
        clear hi
        by_cases q : x.v ≤ 4611686018427387904
        · have y0 : decide ((4611686018427387904 : Int) < (x.v : Int)) = false := decide_eq_false (by omega)
          have HS := hide q
          clear q
          go_wp2
          go_roundw
          case rel => exact ⟨1, by omega, by first | rfl | go_num, hide ⟨fun _ => HS.out, fun h => absurd h (by omega), fun h => absurd h (by omega), fun h => absurd h (by omega)⟩, by first | rfl | trivial⟩
          case measure => first | decide | (simp [intOf]; done) | (simp [intOf]; omega)
        · have y0 : decide ((4611686018427387904 : Int) < (x.v : Int)) = true := decide_eq_true (by omega)
          have HF := hide (not_of_iff HT.out.1 (fun e => q e.v))
          clear q
          go_wp2
          go_ret
          exact ⟨ret_bool HF.out.symm, hb1⟩
      · have hi2 : _ = Value.int .i64 (1 : Int) := hi
        subst hi2
        clear hi
        by_cases q : x.a ≤ 4611686018427387904
        · have y0 : decide ((4611686018427387904 : Int) < (x.a : Int)) = false := decide_eq_false (by omega)
          have HS := hide q
          clear q
          go_wp2
          go_roundw
          case rel => exact ⟨2, by omega, by first | rfl | go_num, hide ⟨fun _ => HJ.out.1 (by omega), fun _ => HS.out, fun h => absurd h (by omega), fun h => absurd h (by omega)⟩, by first | rfl | trivial⟩
          case measure => first | decide | (simp [intOf]; done) | (simp [intOf]; omega)
        · have y0 : decide ((4611686018427387904 : Int) < (x.a : Int)) = true := decide_eq_true (by omega)
          have HF := hide (not_of_iff HT.out.1 (fun e => q e.a))
          clear q
          go_wp2
          go_ret
          exact ⟨ret_bool HF.out.symm, hb1⟩
      · have hi2 : _ = Value.int .i64 (2 : Int) := hi
        subst hi2
        clear hi
        by_cases q : x.l ≤ 4611686018427387904
        · have y0 : decide ((4611686018427387904 : Int) < (x.l : Int)) = false := decide_eq_false (by omega)
          have HS := hide q
          clear q
          go_wp2
          go_roundw
          case rel => exact ⟨3, by omega, by first | rfl | go_num, hide ⟨fun _ => HJ.out.1 (by omega), fun _ => HJ.out.2.1 (by omega), fun _ => HS.out, fun h => absurd h (by omega)⟩, by first | rfl | trivial⟩
          case measure => first | decide | (simp [intOf]; done) | (simp [intOf]; omega)
        · have y0 : decide ((4611686018427387904 : Int) < (x.l : Int)) = true := decide_eq_true (by omega)
          have HF := hide (not_of_iff HT.out.1 (fun e => q e.l))
          clear q
          go_wp2
          go_ret
          exact ⟨ret_bool HF.out.symm, hb1⟩
      · have hi2 : _ = Value.int .i64 (3 : Int) := hi
        subst hi2
        clear hi
        by_cases q : x.s ≤ 4611686018427387904
        · have y0 : decide ((4611686018427387904 : Int) < (x.s : Int)) = false := decide_eq_false (by omega)
          have HS := hide q
          clear q
          go_wp2
          go_roundw
          case rel => exact ⟨4, by omega, by first | rfl | go_num, hide ⟨fun _ => HJ.out.1 (by omega), fun _ => HJ.out.2.1 (by omega), fun _ => HJ.out.2.2.1 (by omega), fun _ => HS.out⟩, by first | rfl | trivial⟩
          case measure => first | decide | (simp [intOf]; done) | (simp [intOf]; omega)
        · have y0 : decide ((4611686018427387904 : Int) < (x.s : Int)) = true := decide_eq_true (by omega)
          have HF := hide (not_of_iff HT.out.1 (fun e => q e.s))
          clear q
          go_wp2
          go_ret
          exact ⟨ret_bool HF.out.symm, hb1⟩
    · obtain rfl : j = 4 := by omega
      have hi2 : _ = Value.int .i64 (4 : Int) := hi
      subst hi2
      have HN := hide (And.intro (HJ.out.1 (by omega)) (And.intro (HJ.out.2.1 (by omega)) (And.intro (HJ.out.2.2.1 (by omega)) (HJ.out.2.2.2 (by omega)))))
      clear hi hj HJ hlt
      by_cases hn : x.n ≤ 24
      · have y0 : decide ((x.n : Int) ≤ 24) = true := decide_eq_true (by omega)
        have cr := HA.out w1 hb1
        have HF := hide (show t = u by
          rw [Bool.eq_iff_iff, HT.out.1, HT.out.2]
          exact ⟨fun e => e.up, fun e => ⟨HN.out.1, HN.out.2.1, HN.out.2.2.1, HN.out.2.2.2, by show x.q.length ≤ 24; rw [HL.out]; exact hn, e⟩⟩)
        go_wp2_with fail
        refine cr.mono ?_
        rintro e w2 ⟨rfl, hb2⟩
        have hb3 := hb1.trans (hb2.mono hb1.size)
        clear cr b1 hb2
        go_wp2
        go_ret
        exact ⟨ret_bool HF.out.symm, hb3⟩
      · have y0 : decide ((x.n : Int) ≤ 24) = false := decide_eq_false (by omega)
        have HF := hide (not_of_iff HT.out.1 (fun e => hn (by have := e.n; change x.q.length ≤ 24 at this; rw [HL.out] at this; exact this)))
        go_wp2
        go_ret
        exact ⟨ret_bool HF.out.symm, hb1⟩
end Go.Proofs.YtjmkecaljkcoiaaGreatDoor
namespace Go.Proofs.YtjmkecaljkcoiaaGreatDoor
open Go.RowKit Go.Maps
set_option linter.unusedVariables false
set_option linter.unusedSimpArgs false
theorem BAt.mk_ (w : World) (x : Bx) : BAt (w.alloc (.cells #[.int .u64 x.v, .int .u64 x.a, .int .u64 x.l, .int .u64 x.s, .slice x.A x.n x.c] 59)) w.heap.size x := heap_alloc_new w _
theorem BAt.lt {w : World} {b : Nat} {x : Bx} (h : BAt w b x) : b < w.heap.size := (Array.getElem?_eq_some_iff.1 h).1
theorem BAt.later {w w' : World} {b : Nat} {x : Bx} (h : BAt w b x) (hb : Below w.heap.size w w') : BAt w' b x := (hb.block b h.lt).trans h
theorem BAt.alloc {w : World} {b : Nat} {x : Bx} (h : BAt w b x) (o : Obj) : BAt (w.alloc o) b x := h.later ((Below.refl _ _).alloc (Nat.le_refl _) o)
theorem BAt.cells {w : World} {b : Nat} {x : Bx} (h : BAt w b x) : w.cell? ⟨b, 0, none⟩ = some (.int .u64 x.v) ∧ w.cell? ⟨b, 1, none⟩ = some (.int .u64 x.a) ∧ w.cell? ⟨b, 2, none⟩ = some (.int .u64 x.l) ∧ w.cell? ⟨b, 3, none⟩ = some (.int .u64 x.s) ∧ w.cell? ⟨b, 4, none⟩ = some (.slice x.A x.n x.c) :=
  ⟨cell_of_row w b 0 _ _ (0, 0) h, cell_of_row w b 1 _ _ (0, 0) h, cell_of_row w b 2 _ _ (0, 0) h, cell_of_row w b 3 _ _ (0, 0) h, cell_of_row w b 4 _ _ (0, 0) h⟩
end Go.Proofs.YtjmkecaljkcoiaaGreatDoor
