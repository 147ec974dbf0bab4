import Derived.Test.YtjmkecaljkcoiaaDoorQBeat1
import Derived.Test.YtjmkecaljkcoiaaDoorQViewD
namespace Go.Proofs.YtjmkecaljkcoiaaDoor
open Go.RowKit Go.Maps
set_option linter.unusedVariables false
set_option linter.unusedSimpArgs false
set_option maxRecDepth 100000 in
theorem numbers_any (x : Bx) (w : World) :
    Calls Tryd.prog 60 #[.agg #[.int .u64 (x.v : Int), .int .u64 (x.a : Int), .int .u64 (x.l : Int), .int .u64 (x.s : Int), .slice x.A x.n x.c]] w fun e w' =>
      e = .returned (.agg #[.int .u64 (x.v : Int), .int .u64 (x.a : Int), .int .u64 (x.l : Int), .int .u64 (x.s : Int)]) ∧ Below w.heap.size w w' := by
  go_enter Tryd.func60, Tryd.ntmps60
  go_wp2
  refine bodyPost_ret (v := .agg #[.int .u64 (x.v : Int), .int .u64 (x.a : Int), .int .u64 (x.l : Int), .int .u64 (x.s : Int)]) (by simp [results, Tryd.results60, go_sem]) rfl ⟨rfl, ?_⟩
  have h0 : Below w.heap.size w (w.alloc (.cells #[.int .u64 (x.v : Int), .int .u64 (x.a : Int), .int .u64 (x.l : Int), .int .u64 (x.s : Int), .slice x.A x.n x.c] 52)) := (Below.refl _ _).alloc (Nat.le_refl _) _
  repeat (first | exact (h0.alloc (by simp) _) | refine Below.setCell ?_ (by simp) _ | refine Below.setRow ?_ (by simp) _)
set_option maxRecDepth 100000 in
theorem maybeat_any (x : Bx) (B : Nat) (w : World) (t : Bool) (h : BxIn w B x) (hB : B ≤ w.heap.size) (ht : t = true ↔ MayB x.m) :
    Calls Tryd.prog 55 #[.agg #[.int .u64 (x.v : Int), .int .u64 (x.a : Int), .int .u64 (x.l : Int), .int .u64 (x.s : Int), .slice x.A x.n x.c]] w fun e w' => e = .returned (.bool t) ∧ Below w.heap.size w w' := by
  obtain ⟨u, hu⟩ : ∃ u : Bool, (u = true ↔ UpTo x.q x.q.length) := by
    by_cases e : UpTo x.q x.q.length
    · exact ⟨true, ⟨fun _ => e, fun _ => rfl⟩⟩
    · exact ⟨false, ⟨fun h => absurd h (by decide), fun h => absurd h e⟩⟩
  have cn := numbers_any x
  have hbw : Below w.heap.size w (w.alloc (.cells #[.int .u64 (x.v : Int), .int .u64 (x.a : Int), .int .u64 (x.l : Int), .int .u64 (x.s : Int), .slice x.A x.n x.c] 52)) := (Below.refl _ _).alloc (Nat.le_refl _) _
  have ha := fun W (hb : Below w.heap.size w W) => mayrise_any x.A x.n x.c x.q B W u (h.es.below (hb.mono hB)) (Nat.le_trans hB hb.size) (Nat.le_trans h.nc h.room) hu
  have hlen := h.es.len
  have HL := hide hlen
  have HA := hide ha
  have HT := hide (And.intro ht hu)
  clear ht hu ha hlen h
  have b0 : (w.alloc (.cells #[.int .u64 (x.v : Int), .int .u64 (x.a : Int), .int .u64 (x.l : Int), .int .u64 (x.s : Int), .slice x.A x.n x.c] 52)).cell? ⟨w.heap.size, 4, none⟩ = some (.slice x.A x.n x.c) := by go_simp
  have k0 : ∀ w, (Instr.index 88 (.agg #[.int .u64 (x.v : Int), .int .u64 (x.a : Int), .int .u64 (x.l : Int), .int .u64 (x.s : Int)]) (.int .i64 0)).run Tryd.prog w = .ok (.int .u64 (x.v : Int)) w := fun w => by simp [Instr.index, go_sem, asIntOf, part]
  have k1 : ∀ w, (Instr.index 88 (.agg #[.int .u64 (x.v : Int), .int .u64 (x.a : Int), .int .u64 (x.l : Int), .int .u64 (x.s : Int)]) (.int .i64 1)).run Tryd.prog w = .ok (.int .u64 (x.a : Int)) w := fun w => by simp [Instr.index, go_sem, asIntOf, part]
  have k2 : ∀ w, (Instr.index 88 (.agg #[.int .u64 (x.v : Int), .int .u64 (x.a : Int), .int .u64 (x.l : Int), .int .u64 (x.s : Int)]) (.int .i64 2)).run Tryd.prog w = .ok (.int .u64 (x.l : Int)) w := fun w => by simp [Instr.index, go_sem, asIntOf, part]
  have k3 : ∀ w, (Instr.index 88 (.agg #[.int .u64 (x.v : Int), .int .u64 (x.a : Int), .int .u64 (x.l : Int), .int .u64 (x.s : Int)]) (.int .i64 3)).run Tryd.prog w = .ok (.int .u64 (x.s : Int)) w := fun w => by simp [Instr.index, go_sem, asIntOf, part]
  go_enter Tryd.func55, Tryd.ntmps55
  go_wp2_with fail
  refine (cn _).mono ?_
  rintro e w1 ⟨rfl, hb⟩
  have b1 := cellL b0 hb
  have hb1 := hbw.trans (hb.mono hbw.size)
  clear cn hb hbw b0
  go_wp2
  go_loopw [7] (fun i wr => ∃ j : Nat, j ≤ 4 ∧ i = .int .i64 j ∧ Hid ((0 < j → x.v ≤ 4611686018427387904) ∧ (1 < j → x.a ≤ 4611686018427387904) ∧ (2 < j → x.l ≤ 4611686018427387904) ∧ (3 < j → x.s ≤ 4611686018427387904)) ∧ w1 = wr) (fun i _ => 4 - (intOf i).toNat)
  case atStart => exact ⟨0, by omega, rfl, hide ⟨fun h => by omega, fun h => by omega, fun h => by omega, fun h => by omega⟩, by first | rfl | trivial⟩
  case round =>
    obtain ⟨j, hj, hi, HJ, rfl⟩ := hrel
    by_cases hlt : j < 4
    · rcases (by omega : j = 0 ∨ j = 1 ∨ j = 2 ∨ j = 3) with rfl | rfl | rfl | rfl
      · have hi2 : _ = Value.int .i64 (0 : Int) := hi
        subst hi2
        clear hi
        by_cases q : x.v ≤ 4611686018427387904
        · have y0 : decide ((4611686018427387904 : Int) < (x.v : Int)) = false := decide_eq_false (by omega)
          have HS := hide q
          clear q
          go_wp2
          go_roundw
          case rel => exact ⟨1, by omega, by first | rfl | go_num, hide ⟨fun _ => HS.out, fun h => absurd h (by omega), fun h => absurd h (by omega), fun h => absurd h (by omega)⟩, by first | rfl | trivial⟩
          case measure => first | decide | (simp [intOf]; done) | (simp [intOf]; omega)
        · have y0 : decide ((4611686018427387904 : Int) < (x.v : Int)) = true := decide_eq_true (by omega)
          have HF := hide (not_of_iff HT.out.1 (fun e => q e.v))
          clear q
          go_wp2
          go_ret
          exact ⟨ret_bool HF.out.symm, hb1⟩
      · have hi2 : _ = Value.int .i64 (1 : Int) := hi
        subst hi2
        clear hi
        by_cases q : x.a ≤ 4611686018427387904
        · have y0 : decide ((4611686018427387904 : Int) < (x.a : Int)) = false := decide_eq_false (by omega)
          have HS := hide q
          clear q
          go_wp2
          go_roundw
          case rel => exact ⟨2, by omega, by first | rfl | go_num, hide ⟨fun _ => HJ.out.1 (by omega), fun _ => HS.out, fun h => absurd h (by omega), fun h => absurd h (by omega)⟩, by first | rfl | trivial⟩
          case measure => first | decide | (simp [intOf]; done) | (simp [intOf]; omega)
        · have y0 : decide ((4611686018427387904 : Int) < (x.a : Int)) = true := decide_eq_true (by omega)
          have HF := hide (not_of_iff HT.out.1 (fun e => q e.a))
          clear q
          go_wp2
          go_ret
          exact ⟨ret_bool HF.out.symm, hb1⟩
      · have hi2 : _ = Value.int .i64 (2 : Int) := hi
        subst hi2
        clear hi
        by_cases q : x.l ≤ 4611686018427387904
        · have y0 : decide ((4611686018427387904 : Int) < (x.l : Int)) = false := decide_eq_false (by omega)
          have HS := hide q
          clear q
          go_wp2
          go_roundw
          case rel => exact ⟨3, by omega, by first | rfl | go_num, hide ⟨fun _ => HJ.out.1 (by omega), fun _ => HJ.out.2.1 (by omega), fun _ => HS.out, fun h => absurd h (by omega)⟩, by first | rfl | trivial⟩
          case measure => first | decide | (simp [intOf]; done) | (simp [intOf]; omega)
        · have y0 : decide ((4611686018427387904 : Int) < (x.l : Int)) = true := decide_eq_true (by omega)
          have HF := hide (not_of_iff HT.out.1 (fun e => q e.l))
          clear q
          go_wp2
          go_ret
          exact ⟨ret_bool HF.out.symm, hb1⟩
      · have hi2 : _ = Value.int .i64 (3 : Int) := hi
        subst hi2
        clear hi
        by_cases q : x.s ≤ 4611686018427387904
        · have y0 : decide ((4611686018427387904 : Int) < (x.s : Int)) = false := decide_eq_false (by omega)
          have HS := hide q
          clear q
          go_wp2
          go_roundw
          case rel => exact ⟨4, by omega, by first | rfl | go_num, hide ⟨fun _ => HJ.out.1 (by omega), fun _ => HJ.out.2.1 (by omega), fun _ => HJ.out.2.2.1 (by omega), fun _ => HS.out⟩, by first | rfl | trivial⟩
          case measure => first | decide | (simp [intOf]; done) | (simp [intOf]; omega)
        · have y0 : decide ((4611686018427387904 : Int) < (x.s : Int)) = true := decide_eq_true (by omega)
          have HF := hide (not_of_iff HT.out.1 (fun e => q e.s))
          clear q
          go_wp2
          go_ret
          exact ⟨ret_bool HF.out.symm, hb1⟩
    · obtain rfl : j = 4 := by omega
      have hi2 : _ = Value.int .i64 (4 : Int) := hi
      subst hi2
      have HN := hide (And.intro (HJ.out.1 (by omega)) (And.intro (HJ.out.2.1 (by omega)) (And.intro (HJ.out.2.2.1 (by omega)) (HJ.out.2.2.2 (by omega)))))
      clear hi hj HJ hlt
      by_cases hn : x.n ≤ 24
      · have y0 : decide ((x.n : Int) ≤ 24) = true := decide_eq_true (by omega)
        have cr := HA.out w1 hb1
        have HF := hide (show t = u by
          rw [Bool.eq_iff_iff, HT.out.1, HT.out.2]
          exact ⟨fun e => e.up, fun e => ⟨HN.out.1, HN.out.2.1, HN.out.2.2.1, HN.out.2.2.2, by show x.q.length ≤ 24; rw [HL.out]; exact hn, e⟩⟩)
        go_wp2_with fail
        refine cr.mono ?_
        rintro e w2 ⟨rfl, hb2⟩
        have hb3 := hb1.trans (hb2.mono hb1.size)
        clear cr b1 hb2
        go_wp2
        go_ret
        exact ⟨ret_bool HF.out.symm, hb3⟩
      · have y0 : decide ((x.n : Int) ≤ 24) = false := decide_eq_false (by omega)
        have HF := hide (not_of_iff HT.out.1 (fun e => hn (by have := e.n; change x.q.length ≤ 24 at this; rw [HL.out] at this; exact this)))
        go_wp2
        go_ret
        exact ⟨ret_bool HF.out.symm, hb1⟩
end Go.Proofs.YtjmkecaljkcoiaaDoor
namespace Go.Proofs.YtjmkecaljkcoiaaDoor
open Go.RowKit Go.Maps
set_option linter.unusedVariables false
set_option linter.unusedSimpArgs false
theorem BAt.mk_ (w : World) (x : Bx) : BAt (w.alloc (.cells #[.int .u64 (x.v : Int), .int .u64 (x.a : Int), .int .u64 (x.l : Int), .int .u64 (x.s : Int), .slice x.A x.n x.c] 52)) w.heap.size x := heap_alloc_new w _
theorem BAt.lt {w : World} {b : Nat} {x : Bx} (h : BAt w b x) : b < w.heap.size := (Array.getElem?_eq_some_iff.1 h).1
theorem BAt.later {w w' : World} {b : Nat} {x : Bx} (h : BAt w b x) (hb : Below w.heap.size w w') : BAt w' b x := (hb.block b h.lt).trans h
theorem BAt.alloc {w : World} {b : Nat} {x : Bx} (h : BAt w b x) (o : Obj) : BAt (w.alloc o) b x := h.later ((Below.refl _ _).alloc (Nat.le_refl _) o)
theorem BAt.cells {w : World} {b : Nat} {x : Bx} (h : BAt w b x) : w.cell? ⟨b, 0, none⟩ = some (.int .u64 (x.v : Int)) ∧ w.cell? ⟨b, 1, none⟩ = some (.int .u64 (x.a : Int)) ∧ w.cell? ⟨b, 2, none⟩ = some (.int .u64 (x.l : Int)) ∧ w.cell? ⟨b, 3, none⟩ = some (.int .u64 (x.s : Int)) ∧ w.cell? ⟨b, 4, none⟩ = some (.slice x.A x.n x.c) :=
  ⟨cell_of_row w b 0 _ _ (0, 0) h, cell_of_row w b 1 _ _ (0, 0) h, cell_of_row w b 2 _ _ (0, 0) h, cell_of_row w b 3 _ _ (0, 0) h, cell_of_row w b 4 _ _ (0, 0) h⟩
set_option maxRecDepth 100000 in
theorem rbsame_any (x y : Bx) (B B' : Nat) (w : World) (t : Bool) (h : BxIn w B x) (h' : BxIn w B' y) (hB : B ≤ w.heap.size) (hB' : B' ≤ w.heap.size) (ht : t = true ↔ x.m = y.m) :
    Calls Tryd.prog 20 #[.agg #[.int .u64 (x.v : Int), .int .u64 (x.a : Int), .int .u64 (x.l : Int), .int .u64 (x.s : Int), .slice x.A x.n x.c], .agg #[.int .u64 (y.v : Int), .int .u64 (y.a : Int), .int .u64 (y.l : Int), .int .u64 (y.s : Int), .slice y.A y.n y.c]] w fun e w' => e = .returned (.bool t) ∧ Below w.heap.size w w' := by
  rw [bt_eq] at ht
  have ht' : t = true ↔ x.v = y.v ∧ x.a = y.a ∧ x.l = y.l ∧ x.s = y.s ∧ x.q = y.q := ht
  have v0 := (BAt.mk_ w x).alloc (.cells #[.int .u64 (y.v : Int), .int .u64 (y.a : Int), .int .u64 (y.l : Int), .int .u64 (y.s : Int), .slice y.A y.n y.c] 52)
  have v1 := BAt.mk_ (w.alloc (.cells #[.int .u64 (x.v : Int), .int .u64 (x.a : Int), .int .u64 (x.l : Int), .int .u64 (x.s : Int), .slice x.A x.n x.c] 52)) y
  simp only [World.size_alloc] at v1
  have hbz : Below w.heap.size w ((w.alloc (.cells #[.int .u64 (x.v : Int), .int .u64 (x.a : Int), .int .u64 (x.l : Int), .int .u64 (x.s : Int), .slice x.A x.n x.c] 52)).alloc (.cells #[.int .u64 (y.v : Int), .int .u64 (y.a : Int), .int .u64 (y.l : Int), .int .u64 (y.s : Int), .slice y.A y.n y.c] 52)) := ((Below.refl _ _).alloc (Nat.le_refl _) _).alloc (by simp) _
  have cs := samep_any x.A y.A x.n y.n x.c y.c x.q y.q B B' _ (h.below (hbz.mono hB)).es (h'.below (hbz.mono hB')).es (Nat.le_trans h.nc h.room) (Nat.le_trans h'.nc h'.room)
  obtain ⟨u, hu⟩ : ∃ u, u = decide (x.q = y.q) := ⟨_, rfl⟩
  rw [← hu] at cs
  have HT := hide (And.intro ht' hu)
  obtain ⟨k0, k1, k2, k3, k4⟩ := v0.cells
  obtain ⟨j0, j1, j2, j3, j4⟩ := v1.cells
  clear ht ht' hu h h' v0 v1
  go_enter Tryd.func20, Tryd.ntmps20
  generalize hw2 : ((w.alloc (.cells #[.int .u64 (x.v : Int), .int .u64 (x.a : Int), .int .u64 (x.l : Int), .int .u64 (x.s : Int), .slice x.A x.n x.c] 52)).alloc (.cells #[.int .u64 (y.v : Int), .int .u64 (y.a : Int), .int .u64 (y.l : Int), .int .u64 (y.s : Int), .slice y.A y.n y.c] 52)) = w2 at *
  by_cases h0 : x.v = y.v
  case neg =>
    have x1 : ((x.v : Int) == (y.v : Int)) = false := by rw [beq_eq_false_iff_ne]; omega
    have x2 : ¬ ((x.v : Int) = (y.v : Int)) := by omega
    have HF := hide (not_of_iff HT.out.1 (fun e => h0 e.1))
    clear cs
    go_wp2
    go_ret
    first | exact ⟨ret_bool HF.out.symm, hbz⟩ | exact ⟨(by rw [HF.out]; simp [x1, x2]), hbz⟩
  have z0 : ((x.v : Int) == (y.v : Int)) = true := by rw [beq_iff_eq]; omega
  have H0 := hide h0
  clear h0
  by_cases h1 : x.a = y.a
  case neg =>
    have x1 : ((x.a : Int) == (y.a : Int)) = false := by rw [beq_eq_false_iff_ne]; omega
    have x2 : ¬ ((x.a : Int) = (y.a : Int)) := by omega
    have HF := hide (not_of_iff HT.out.1 (fun e => h1 e.2.1))
    clear cs
    go_wp2
    go_ret
    first | exact ⟨ret_bool HF.out.symm, hbz⟩ | exact ⟨(by rw [HF.out]; simp [x1, x2]), hbz⟩
  have z1 : ((x.a : Int) == (y.a : Int)) = true := by rw [beq_iff_eq]; omega
  have H1 := hide h1
  clear h1
  by_cases h2 : x.l = y.l
  case neg =>
    have x1 : ((x.l : Int) == (y.l : Int)) = false := by rw [beq_eq_false_iff_ne]; omega
    have x2 : ¬ ((x.l : Int) = (y.l : Int)) := by omega
    have HF := hide (not_of_iff HT.out.1 (fun e => h2 e.2.2.1))
    clear cs
    go_wp2
    go_ret
    first | exact ⟨ret_bool HF.out.symm, hbz⟩ | exact ⟨(by rw [HF.out]; simp [x1, x2]), hbz⟩
  have z2 : ((x.l : Int) == (y.l : Int)) = true := by rw [beq_iff_eq]; omega
  have H2 := hide h2
  clear h2
  by_cases h3 : x.s = y.s
  case neg =>
    have x1 : ((x.s : Int) == (y.s : Int)) = false := by rw [beq_eq_false_iff_ne]; omega
    have x2 : ¬ ((x.s : Int) = (y.s : Int)) := by omega
    have HF := hide (not_of_iff HT.out.1 (fun e => h3 e.2.2.2.1))
    clear cs
    go_wp2
    go_ret
    first | exact ⟨ret_bool HF.out.symm, hbz⟩ | exact ⟨(by rw [HF.out]; simp [x1, x2]), hbz⟩
  have z3 : ((x.s : Int) == (y.s : Int)) = true := by rw [beq_iff_eq]; omega
  have H3 := hide h3
  clear h3
  have HF := hide (show t = u by
    rw [Bool.eq_iff_iff, HT.out.1, HT.out.2, decide_eq_true_eq]
    exact ⟨fun e => e.2.2.2.2, fun e => ⟨H0.out, H1.out, H2.out, H3.out, e⟩⟩)
  go_wp2_with fail
  refine cs.mono ?_
  rintro e w3 ⟨rfl, hd⟩
  have hb3 := hbz.trans ((drawn_below hd).mono hbz.size)
  clear cs hw2
  go_wp2
  go_ret
  exact ⟨ret_bool HF.out.symm, hb3⟩
end Go.Proofs.YtjmkecaljkcoiaaDoor
