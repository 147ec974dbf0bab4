import Derived.Test.YtjmkecaljkcoiaaGreatDoorQCmd3
import Derived.Test.YtjmkecaljkcoiaaGreatDoorQViewC
namespace Go.Proofs.YtjmkecaljkcoiaaGreatDoor
open Go.RowKit Go.Maps
set_option linter.unusedVariables false
set_option linter.unusedSimpArgs false
theorem pr_zero {i k : Nat} {hi : i < 65536} {hk : k < 4294967296} (h : (⟨i, k, hi, hk⟩ : Pr) = default) : i = 0 ∧ k = 0 := ⟨congrArg Pr.i h, congrArg Pr.k h⟩
set_option maxRecDepth 100000 in
theorem rnone_any (x : Vw) (B : Nat) (w : World) (t : Bool) (h : VwIn w B x) (hB : B ≤ w.heap.size) (ht : t = true ↔ x.v = noV) :
    Calls Tryz.prog 177 #[.agg #[.int .u64 x.id, .slice x.A x.m x.c, .slice x.B x.d x.e, .slice x.C x.f x.g]] w fun e w' => e = .returned (.bool t) ∧ Below w.heap.size w w' := by
  have hbz : Below w.heap.size w (w.alloc (.cells #[.int .u64 x.id, .slice x.A x.m x.c, .slice x.B x.d x.e, .slice x.C x.f x.g] 26)) := (Below.refl _ _).alloc (Nat.le_refl _) _
  have v0 := VAt.mk_ w x
  have cv : Calls Tryz.prog 10 #[.agg #[.int .u64 x.id, .slice x.A x.m x.c, .slice x.B x.d x.e, .slice x.C x.f x.g], .agg #[.int .u64 0, .slice none 0 0, .slice none 0 0, .slice none 0 0]] (w.alloc (.cells #[.int .u64 x.id, .slice x.A x.m x.c, .slice x.B x.d x.e, .slice x.C x.f x.g] 26)) (fun e w' => e = .returned (.bool t) ∧ Below (w.alloc (.cells #[.int .u64 x.id, .slice x.A x.m x.c, .slice x.B x.d x.e, .slice x.C x.f x.g] 26)).heap.size (w.alloc (.cells #[.int .u64 x.id, .slice x.A x.m x.c, .slice x.B x.d x.e, .slice x.C x.f x.g] 26)) w') :=
    rvsame_any x zeroX B _ _ t (h.below (hbz.mono hB)) (zeroX_in _) (Nat.le_trans hB hbz.size) (Nat.le_refl _) ht
  obtain ⟨j0, j1, j2, j3⟩ := v0.cells
  clear h ht v0
  go_enter Tryz.func177, Tryz.ntmps177
  go_wp2_with fail
  refine cv.mono ?_
  rintro e w2 ⟨rfl, hb⟩
  have hb2 := hbz.trans (hb.mono hbz.size)
  go_wp2
  go_ret
  exact ⟨rfl, hb2⟩
set_option maxRecDepth 100000 in
set_option maxHeartbeats 16000000 in
theorem rcheck9_any (y : Cx) (B : Nat) (w : World) (t : Bool) (h : CxIn w B y) (hs : VSmall y.x) (hB : B ≤ w.heap.size) (ht : t = true ↔ ButLen y.m) :
    Calls Tryz.prog 116 #[.agg #[.int .i64 y.kind, .int .u16 y.p.i, .int .u32 y.p.k, .int .u64 y.num, .int .u64 y.vn, .slice y.A y.n y.c, .int .u64 y.x.id, .slice y.x.A y.x.m y.x.c, .slice y.x.B y.x.d y.x.e, .slice y.x.C y.x.f y.x.g]] w fun e w' => e = .returned (.int .i64 (ckE t y.n)) ∧ Below w.heap.size w w' := by
  have hbz : Below w.heap.size w (w.alloc (.cells #[.int .i64 y.kind, .int .u16 y.p.i, .int .u32 y.p.k, .int .u64 y.num, .int .u64 y.vn, .slice y.A y.n y.c, .int .u64 y.x.id, .slice y.x.A y.x.m y.x.c, .slice y.x.B y.x.d y.x.e, .slice y.x.C y.x.f y.x.g] 48)) := (Below.refl _ _).alloc (Nat.le_refl _) _
  have v0 := CAt.mk_ w y
  have hlen : y.l.length = y.n := h.bs.len
  obtain ⟨u, hu⟩ := bool_of (y.x.v = noV)
  obtain ⟨u3, hu3⟩ := bool_of (MayV y.x.v)
  have CN := fun W (hb : Below w.heap.size w W) => rnone_any y.x B W u (h.vw.below (hb.mono hB)) (Nat.le_trans hB hb.size) hu
  have CV := fun W (hb : Below w.heap.size w W) => rcheck_any y.x B W u3 (h.vw.below (hb.mono hB)) hs (Nat.le_trans hB hb.size) hu3
  obtain ⟨kind, ⟨i, k, hi, hk⟩, num, vn, A, n, c, l, xv⟩ := y
  have cm := rmay_any ⟨i, k, hi, hk⟩ (w.alloc (.cells #[.int .i64 kind, .int .u16 i, .int .u32 k, .int .u64 num, .int .u64 vn, .slice A n c, .int .u64 xv.id, .slice xv.A xv.m xv.c, .slice xv.B xv.d xv.e, .slice xv.C xv.f xv.g] 48))
  obtain ⟨b, hbm⟩ : ∃ b, b = mayP ⟨i, k, hi, hk⟩ := ⟨_, rfl⟩
  rw [← hbm] at cm
  obtain ⟨j0, j1, j2, j3, j4, j5, j6, j7, j8, j9⟩ := v0.cells
  dsimp only at *
  have HT := hide ht
  have HU := hide (And.intro hu hu3)
  have HBM := hide hbm
  have HLEN := hide hlen
  clear ht hu hu3 hbm h hs hlen
  generalize hw1 : w.alloc (.cells #[.int .i64 kind, .int .u16 i, .int .u32 k, .int .u64 num, .int .u64 vn, .slice A n c, .int .u64 xv.id, .slice xv.A xv.m xv.c, .slice xv.B xv.d xv.e, .slice xv.C xv.f xv.g] 48) = w1 at *
  by_cases k1 : kind = 1
  case pos =>
    subst k1
    cases b
    case false =>
      by_cases q1 : i = 0
      case neg =>
        have x1 : ((i : Int) == 0) = false := by rw [beq_eq_false_iff_ne]; omega
        have x2 : ¬ ((i : Int) = 0) := by omega
        have hf : ckE t n = 1 := by rw [not_of_iff HT.out (fun hh => by have e := (but1 (by rfl)).1 hh; have e2 := e; simp only [Cx.m, zC, Cm.mk.injEq] at e2; have e3 := pr_zero e2.2.1; omega)]; rfl
        have HF := hide hf
        clear hf
        go_enter Tryz.func116, Tryz.ntmps116
        go_wp2_with fail
        refine cm.mono ?_
        rintro e w2 ⟨rfl, hb⟩
        have hb2 := hbz.trans (hb.mono hbz.size)
        have v2 := v0.later hb
        clear cm hw1 v0 hb j0 j1 j2 j3 j4 j5 j6 j7 j8 j9
        obtain ⟨j0, j1, j2, j3, j4, j5, j6, j7, j8, j9⟩ := v2.cells
        dsimp only at j0 j1 j2 j3 j4 j5 j6 j7 j8 j9
        go_wp2
        go_ret
        exact ⟨ret_int HF.out.symm, hb2⟩
      subst q1
      (try simp only [Int.natCast_zero] at *)
      by_cases q2 : k = 0
      case neg =>
        have x1 : ((k : Int) == 0) = false := by rw [beq_eq_false_iff_ne]; omega
        have x2 : ¬ ((k : Int) = 0) := by omega
        have hf : ckE t n = 1 := by rw [not_of_iff HT.out (fun hh => by have e := (but1 (by rfl)).1 hh; have e2 := e; simp only [Cx.m, zC, Cm.mk.injEq] at e2; have e3 := pr_zero e2.2.1; omega)]; rfl
        have HF := hide hf
        clear hf
        go_enter Tryz.func116, Tryz.ntmps116
        go_wp2_with fail
        refine cm.mono ?_
        rintro e w2 ⟨rfl, hb⟩
        have hb2 := hbz.trans (hb.mono hbz.size)
        have v2 := v0.later hb
        clear cm hw1 v0 hb j0 j1 j2 j3 j4 j5 j6 j7 j8 j9
        obtain ⟨j0, j1, j2, j3, j4, j5, j6, j7, j8, j9⟩ := v2.cells
        dsimp only at j0 j1 j2 j3 j4 j5 j6 j7 j8 j9
        go_wp2
        go_ret
        exact ⟨ret_int HF.out.symm, hb2⟩
      subst q2
      (try simp only [Int.natCast_zero] at *)
      by_cases q3 : num = 0
      case neg =>
        have x1 : ((num : Int) == 0) = false := by rw [beq_eq_false_iff_ne]; omega
        have x2 : ¬ ((num : Int) = 0) := by omega
        have hf : ckE t n = 1 := by rw [not_of_iff HT.out (fun hh => by have e := (but1 (by rfl)).1 hh; have e2 := e; simp only [Cx.m, zC, Cm.mk.injEq] at e2; have e3 := e2.2.2.1; omega)]; rfl
        have HF := hide hf
        clear hf
        go_enter Tryz.func116, Tryz.ntmps116
        go_wp2_with fail
        refine cm.mono ?_
        rintro e w2 ⟨rfl, hb⟩
        have hb2 := hbz.trans (hb.mono hbz.size)
        have v2 := v0.later hb
        clear cm hw1 v0 hb j0 j1 j2 j3 j4 j5 j6 j7 j8 j9
        obtain ⟨j0, j1, j2, j3, j4, j5, j6, j7, j8, j9⟩ := v2.cells
        dsimp only at j0 j1 j2 j3 j4 j5 j6 j7 j8 j9
        go_wp2
        go_ret
        exact ⟨ret_int HF.out.symm, hb2⟩
      subst q3
      (try simp only [Int.natCast_zero] at *)
      by_cases q4 : vn = 0
      case neg =>
        have x1 : ((vn : Int) == 0) = false := by rw [beq_eq_false_iff_ne]; omega
        have x2 : ¬ ((vn : Int) = 0) := by omega
        have hf : ckE t n = 1 := by rw [not_of_iff HT.out (fun hh => by have e := (but1 (by rfl)).1 hh; have e2 := e; simp only [Cx.m, zC, Cm.mk.injEq] at e2; have e3 := e2.2.2.2.1; omega)]; rfl
        have HF := hide hf
        clear hf
        go_enter Tryz.func116, Tryz.ntmps116
        go_wp2_with fail
        refine cm.mono ?_
        rintro e w2 ⟨rfl, hb⟩
        have hb2 := hbz.trans (hb.mono hbz.size)
        have v2 := v0.later hb
        clear cm hw1 v0 hb j0 j1 j2 j3 j4 j5 j6 j7 j8 j9
        obtain ⟨j0, j1, j2, j3, j4, j5, j6, j7, j8, j9⟩ := v2.cells
        dsimp only at j0 j1 j2 j3 j4 j5 j6 j7 j8 j9
        go_wp2
        go_ret
        exact ⟨ret_int HF.out.symm, hb2⟩
      subst q4
      (try simp only [Int.natCast_zero] at *)
      by_cases q5 : n = 0
      case neg =>
        have x1 : ((n : Int) == 0) = false := by rw [beq_eq_false_iff_ne]; omega
        have x2 : ¬ ((n : Int) = 0) := by omega
        have hf : ckE t n = 1 := by rw [not_of_iff HT.out (fun hh => by have e := (but1 (by rfl)).1 hh; have e2 := e; simp only [Cx.m, zC, Cm.mk.injEq] at e2; have e3 := e2.2.2.2.2.1; have e4 := HLEN.out; rw [e3] at e4; exact q5 e4.symm)]; rfl
        have HF := hide hf
        clear hf
        go_enter Tryz.func116, Tryz.ntmps116
        go_wp2_with fail
        refine cm.mono ?_
        rintro e w2 ⟨rfl, hb⟩
        have hb2 := hbz.trans (hb.mono hbz.size)
        have v2 := v0.later hb
        clear cm hw1 v0 hb j0 j1 j2 j3 j4 j5 j6 j7 j8 j9
        obtain ⟨j0, j1, j2, j3, j4, j5, j6, j7, j8, j9⟩ := v2.cells
        dsimp only at j0 j1 j2 j3 j4 j5 j6 j7 j8 j9
        go_wp2
        go_ret
        exact ⟨ret_int HF.out.symm, hb2⟩
      subst q5
      (try simp only [Int.natCast_zero] at *)
      have hl0 : l = [] := List.eq_nil_of_length_eq_zero HLEN.out
      have hf : t = u := by rw [Bool.eq_iff_iff, HT.out, HU.out.1, but1 rfl]; exact ⟨fun e => congrArg Cm.v e, fun e => Cm.ext' rfl rfl rfl rfl hl0 e⟩
      have HF := hide hf
      clear hf hl0
      go_enter Tryz.func116, Tryz.ntmps116
      go_wp2_with fail
      refine cm.mono ?_
      rintro e w2 ⟨rfl, hb⟩
      have hb2 := hbz.trans (hb.mono hbz.size)
      have v2 := v0.later hb
      clear cm hw1 v0 hb j0 j1 j2 j3 j4 j5 j6 j7 j8 j9
      obtain ⟨j0, j1, j2, j3, j4, j5, j6, j7, j8, j9⟩ := v2.cells
      dsimp only at j0 j1 j2 j3 j4 j5 j6 j7 j8 j9
      have cn := CN w2 hb2
      go_wp2_with fail
      refine cn.mono ?_
      rintro e w3 ⟨rfl, hb⟩
      have hb3 := hb2.trans (hb.mono hb2.size)
      have v3 := v2.later hb
      clear cn v2 hb j0 j1 j2 j3 j4 j5 j6 j7 j8 j9
      obtain ⟨j0, j1, j2, j3, j4, j5, j6, j7, j8, j9⟩ := v3.cells
      dsimp only at j0 j1 j2 j3 j4 j5 j6 j7 j8 j9
      cases u
      · go_wp2
        go_ret
        exact ⟨ret_int (by rw [HF.out]; rfl), hb3⟩
      · go_wp2
        go_ret
        exact ⟨ret_int (by rw [HF.out]; rfl), hb3⟩
    case true =>
      have hkp : 0 < k := by have e := HBM.out.symm; unfold mayP at e; simp only [Bool.and_eq_true, decide_eq_true_eq] at e; exact e.2
      have y1 : ((k : Int) == 0) = false := by rw [beq_eq_false_iff_ne]; omega
      have y2 : ¬ ((k : Int) = 0) := by omega
      by_cases p0 : 1 ≤ num
      case neg =>
        have z0 : decide ((1 : Int) ≤ (num : Int)) = false := decide_eq_false (by omega)
        by_cases qi : i = 0
        case pos =>
          subst qi
          (try simp only [Int.natCast_zero] at *)
          have hf : ckE t n = 1 := by rw [not_of_iff HT.out (fun hh => by have e := (but1 (by rfl)).1 hh; have e2 := e; simp only [Cx.m, zC, Cm.mk.injEq] at e2; have e3 := pr_zero e2.2.1; omega)]; rfl
          have HF := hide hf
          clear hf
          go_enter Tryz.func116, Tryz.ntmps116
          go_wp2_with fail
          refine cm.mono ?_
          rintro e w2 ⟨rfl, hb⟩
          have hb2 := hbz.trans (hb.mono hbz.size)
          have v2 := v0.later hb
          clear cm hw1 v0 hb j0 j1 j2 j3 j4 j5 j6 j7 j8 j9
          obtain ⟨j0, j1, j2, j3, j4, j5, j6, j7, j8, j9⟩ := v2.cells
          dsimp only at j0 j1 j2 j3 j4 j5 j6 j7 j8 j9
          go_wp2
          go_ret
          exact ⟨ret_int HF.out.symm, hb2⟩
        have x1 : ((i : Int) == 0) = false := by rw [beq_eq_false_iff_ne]; omega
        have x2 : ¬ ((i : Int) = 0) := by omega
        have hf : ckE t n = 1 := by rw [not_of_iff HT.out (fun hh => by have e := (but1 (by rfl)).1 hh; have e2 := e; simp only [Cx.m, zC, Cm.mk.injEq] at e2; have e3 := pr_zero e2.2.1; omega)]; rfl
        have HF := hide hf
        clear hf
        go_enter Tryz.func116, Tryz.ntmps116
        go_wp2_with fail
        refine cm.mono ?_
        rintro e w2 ⟨rfl, hb⟩
        have hb2 := hbz.trans (hb.mono hbz.size)
        have v2 := v0.later hb
        clear cm hw1 v0 hb j0 j1 j2 j3 j4 j5 j6 j7 j8 j9
        obtain ⟨j0, j1, j2, j3, j4, j5, j6, j7, j8, j9⟩ := v2.cells
        dsimp only at j0 j1 j2 j3 j4 j5 j6 j7 j8 j9
        go_wp2
        go_ret
        exact ⟨ret_int HF.out.symm, hb2⟩
      have z0 : decide ((1 : Int) ≤ (num : Int)) = true := decide_eq_true (by omega)
      by_cases p1 : num ≤ 4611686018427387904
      case neg =>
        have z1 : decide ((num : Int) ≤ 4611686018427387904) = false := decide_eq_false (by omega)
        by_cases qi : i = 0
        case pos =>
          subst qi
          (try simp only [Int.natCast_zero] at *)
          have hf : ckE t n = 1 := by rw [not_of_iff HT.out (fun hh => by have e := (but1 (by rfl)).1 hh; have e2 := e; simp only [Cx.m, zC, Cm.mk.injEq] at e2; have e3 := pr_zero e2.2.1; omega)]; rfl
          have HF := hide hf
          clear hf
          go_enter Tryz.func116, Tryz.ntmps116
          go_wp2_with fail
          refine cm.mono ?_
          rintro e w2 ⟨rfl, hb⟩
          have hb2 := hbz.trans (hb.mono hbz.size)
          have v2 := v0.later hb
          clear cm hw1 v0 hb j0 j1 j2 j3 j4 j5 j6 j7 j8 j9
          obtain ⟨j0, j1, j2, j3, j4, j5, j6, j7, j8, j9⟩ := v2.cells
          dsimp only at j0 j1 j2 j3 j4 j5 j6 j7 j8 j9
          go_wp2
          go_ret
          exact ⟨ret_int HF.out.symm, hb2⟩
        have x1 : ((i : Int) == 0) = false := by rw [beq_eq_false_iff_ne]; omega
        have x2 : ¬ ((i : Int) = 0) := by omega
        have hf : ckE t n = 1 := by rw [not_of_iff HT.out (fun hh => by have e := (but1 (by rfl)).1 hh; have e2 := e; simp only [Cx.m, zC, Cm.mk.injEq] at e2; have e3 := pr_zero e2.2.1; omega)]; rfl
        have HF := hide hf
        clear hf
        go_enter Tryz.func116, Tryz.ntmps116
        go_wp2_with fail
        refine cm.mono ?_
        rintro e w2 ⟨rfl, hb⟩
        have hb2 := hbz.trans (hb.mono hbz.size)
        have v2 := v0.later hb
        clear cm hw1 v0 hb j0 j1 j2 j3 j4 j5 j6 j7 j8 j9
        obtain ⟨j0, j1, j2, j3, j4, j5, j6, j7, j8, j9⟩ := v2.cells
        dsimp only at j0 j1 j2 j3 j4 j5 j6 j7 j8 j9
        go_wp2
        go_ret
        exact ⟨ret_int HF.out.symm, hb2⟩
      have z1 : decide ((num : Int) ≤ 4611686018427387904) = true := decide_eq_true (by omega)
      by_cases p2 : 1 ≤ vn
      case neg =>
        have z2 : decide ((1 : Int) ≤ (vn : Int)) = false := decide_eq_false (by omega)
        by_cases qi : i = 0
        case pos =>
          subst qi
          (try simp only [Int.natCast_zero] at *)
          have hf : ckE t n = 1 := by rw [not_of_iff HT.out (fun hh => by have e := (but1 (by rfl)).1 hh; have e2 := e; simp only [Cx.m, zC, Cm.mk.injEq] at e2; have e3 := pr_zero e2.2.1; omega)]; rfl
          have HF := hide hf
          clear hf
          go_enter Tryz.func116, Tryz.ntmps116
          go_wp2_with fail
          refine cm.mono ?_
          rintro e w2 ⟨rfl, hb⟩
          have hb2 := hbz.trans (hb.mono hbz.size)
          have v2 := v0.later hb
          clear cm hw1 v0 hb j0 j1 j2 j3 j4 j5 j6 j7 j8 j9
          obtain ⟨j0, j1, j2, j3, j4, j5, j6, j7, j8, j9⟩ := v2.cells
          dsimp only at j0 j1 j2 j3 j4 j5 j6 j7 j8 j9
          go_wp2
          go_ret
          exact ⟨ret_int HF.out.symm, hb2⟩
        have x1 : ((i : Int) == 0) = false := by rw [beq_eq_false_iff_ne]; omega
        have x2 : ¬ ((i : Int) = 0) := by omega
        have hf : ckE t n = 1 := by rw [not_of_iff HT.out (fun hh => by have e := (but1 (by rfl)).1 hh; have e2 := e; simp only [Cx.m, zC, Cm.mk.injEq] at e2; have e3 := pr_zero e2.2.1; omega)]; rfl
        have HF := hide hf
        clear hf
        go_enter Tryz.func116, Tryz.ntmps116
        go_wp2_with fail
        refine cm.mono ?_
        rintro e w2 ⟨rfl, hb⟩
        have hb2 := hbz.trans (hb.mono hbz.size)
        have v2 := v0.later hb
        clear cm hw1 v0 hb j0 j1 j2 j3 j4 j5 j6 j7 j8 j9
        obtain ⟨j0, j1, j2, j3, j4, j5, j6, j7, j8, j9⟩ := v2.cells
        dsimp only at j0 j1 j2 j3 j4 j5 j6 j7 j8 j9
        go_wp2
        go_ret
        exact ⟨ret_int HF.out.symm, hb2⟩
      have z2 : decide ((1 : Int) ≤ (vn : Int)) = true := decide_eq_true (by omega)
      by_cases p3 : vn ≤ 4611686018427387904
      case neg =>
        have z3 : decide ((vn : Int) ≤ 4611686018427387904) = false := decide_eq_false (by omega)
        by_cases qi : i = 0
        case pos =>
          subst qi
          (try simp only [Int.natCast_zero] at *)
          have hf : ckE t n = 1 := by rw [not_of_iff HT.out (fun hh => by have e := (but1 (by rfl)).1 hh; have e2 := e; simp only [Cx.m, zC, Cm.mk.injEq] at e2; have e3 := pr_zero e2.2.1; omega)]; rfl
          have HF := hide hf
          clear hf
          go_enter Tryz.func116, Tryz.ntmps116
          go_wp2_with fail
          refine cm.mono ?_
          rintro e w2 ⟨rfl, hb⟩
          have hb2 := hbz.trans (hb.mono hbz.size)
          have v2 := v0.later hb
          clear cm hw1 v0 hb j0 j1 j2 j3 j4 j5 j6 j7 j8 j9
          obtain ⟨j0, j1, j2, j3, j4, j5, j6, j7, j8, j9⟩ := v2.cells
          dsimp only at j0 j1 j2 j3 j4 j5 j6 j7 j8 j9
          go_wp2
          go_ret
          exact ⟨ret_int HF.out.symm, hb2⟩
        have x1 : ((i : Int) == 0) = false := by rw [beq_eq_false_iff_ne]; omega
        have x2 : ¬ ((i : Int) = 0) := by omega
        have hf : ckE t n = 1 := by rw [not_of_iff HT.out (fun hh => by have e := (but1 (by rfl)).1 hh; have e2 := e; simp only [Cx.m, zC, Cm.mk.injEq] at e2; have e3 := pr_zero e2.2.1; omega)]; rfl
        have HF := hide hf
        clear hf
        go_enter Tryz.func116, Tryz.ntmps116
        go_wp2_with fail
        refine cm.mono ?_
        rintro e w2 ⟨rfl, hb⟩
        have hb2 := hbz.trans (hb.mono hbz.size)
        have v2 := v0.later hb
        clear cm hw1 v0 hb j0 j1 j2 j3 j4 j5 j6 j7 j8 j9
        obtain ⟨j0, j1, j2, j3, j4, j5, j6, j7, j8, j9⟩ := v2.cells
        dsimp only at j0 j1 j2 j3 j4 j5 j6 j7 j8 j9
        go_wp2
        go_ret
        exact ⟨ret_int HF.out.symm, hb2⟩
      have z3 : decide ((vn : Int) ≤ 4611686018427387904) = true := decide_eq_true (by omega)
      by_cases qi : i = 0
      case pos =>
        subst qi
        (try simp only [Int.natCast_zero] at *)
        have hf : ckE t n = 1 := by rw [not_of_iff HT.out (fun hh => by have e := (but1 (by rfl)).1 hh; have e2 := e; simp only [Cx.m, zC, Cm.mk.injEq] at e2; have e3 := pr_zero e2.2.1; omega)]; rfl
        have HF := hide hf
        clear hf
        go_enter Tryz.func116, Tryz.ntmps116
        go_wp2_with fail
        refine cm.mono ?_
        rintro e w2 ⟨rfl, hb⟩
        have hb2 := hbz.trans (hb.mono hbz.size)
        have v2 := v0.later hb
        clear cm hw1 v0 hb j0 j1 j2 j3 j4 j5 j6 j7 j8 j9
        obtain ⟨j0, j1, j2, j3, j4, j5, j6, j7, j8, j9⟩ := v2.cells
        dsimp only at j0 j1 j2 j3 j4 j5 j6 j7 j8 j9
        go_wp2
        go_ret
        exact ⟨ret_int HF.out.symm, hb2⟩
      have x1 : ((i : Int) == 0) = false := by rw [beq_eq_false_iff_ne]; omega
      have x2 : ¬ ((i : Int) = 0) := by omega
      have hf : ckE t n = 1 := by rw [not_of_iff HT.out (fun hh => by have e := (but1 (by rfl)).1 hh; have e2 := e; simp only [Cx.m, zC, Cm.mk.injEq] at e2; have e3 := pr_zero e2.2.1; omega)]; rfl
      have HF := hide hf
      clear hf
      go_enter Tryz.func116, Tryz.ntmps116
      go_wp2_with fail
      refine cm.mono ?_
      rintro e w2 ⟨rfl, hb⟩
      have hb2 := hbz.trans (hb.mono hbz.size)
      have v2 := v0.later hb
      clear cm hw1 v0 hb j0 j1 j2 j3 j4 j5 j6 j7 j8 j9
      obtain ⟨j0, j1, j2, j3, j4, j5, j6, j7, j8, j9⟩ := v2.cells
      dsimp only at j0 j1 j2 j3 j4 j5 j6 j7 j8 j9
      go_wp2
      go_ret
      exact ⟨ret_int HF.out.symm, hb2⟩
  have r1 : (kind == 1) = false := by rw [beq_eq_false_iff_ne]; exact k1
  by_cases k2 : kind = 2
  case pos =>
    subst k2
    cases b
    case false =>
      by_cases q1 : i = 0
      case neg =>
        have x1 : ((i : Int) == 0) = false := by rw [beq_eq_false_iff_ne]; omega
        have x2 : ¬ ((i : Int) = 0) := by omega
        have hf : ckE t n = 1 := by rw [not_of_iff HT.out (fun hh => by have e := (but2 (by rfl)).1 hh; simp only [Cx.m] at e; have e1 := e.1; rw [← HBM.out] at e1; cases e1)]; rfl
        have HF := hide hf
        clear hf
        go_enter Tryz.func116, Tryz.ntmps116
        go_wp2_with fail
        refine cm.mono ?_
        rintro e w2 ⟨rfl, hb⟩
        have hb2 := hbz.trans (hb.mono hbz.size)
        have v2 := v0.later hb
        clear cm hw1 v0 hb j0 j1 j2 j3 j4 j5 j6 j7 j8 j9
        obtain ⟨j0, j1, j2, j3, j4, j5, j6, j7, j8, j9⟩ := v2.cells
        dsimp only at j0 j1 j2 j3 j4 j5 j6 j7 j8 j9
        go_wp2
        go_ret
        exact ⟨ret_int HF.out.symm, hb2⟩
      subst q1
      (try simp only [Int.natCast_zero] at *)
      by_cases q2 : k = 0
      case neg =>
        have x1 : ((k : Int) == 0) = false := by rw [beq_eq_false_iff_ne]; omega
        have x2 : ¬ ((k : Int) = 0) := by omega
        have hf : ckE t n = 1 := by rw [not_of_iff HT.out (fun hh => by have e := (but2 (by rfl)).1 hh; simp only [Cx.m] at e; have e1 := e.1; rw [← HBM.out] at e1; cases e1)]; rfl
        have HF := hide hf
        clear hf
        go_enter Tryz.func116, Tryz.ntmps116
        go_wp2_with fail
        refine cm.mono ?_
        rintro e w2 ⟨rfl, hb⟩
        have hb2 := hbz.trans (hb.mono hbz.size)
        have v2 := v0.later hb
        clear cm hw1 v0 hb j0 j1 j2 j3 j4 j5 j6 j7 j8 j9
        obtain ⟨j0, j1, j2, j3, j4, j5, j6, j7, j8, j9⟩ := v2.cells
        dsimp only at j0 j1 j2 j3 j4 j5 j6 j7 j8 j9
        go_wp2
        go_ret
        exact ⟨ret_int HF.out.symm, hb2⟩
      subst q2
      (try simp only [Int.natCast_zero] at *)
      by_cases q3 : num = 0
      case neg =>
        have x1 : ((num : Int) == 0) = false := by rw [beq_eq_false_iff_ne]; omega
        have x2 : ¬ ((num : Int) = 0) := by omega
        have hf : ckE t n = 1 := by rw [not_of_iff HT.out (fun hh => by have e := (but2 (by rfl)).1 hh; simp only [Cx.m] at e; have e1 := e.1; rw [← HBM.out] at e1; cases e1)]; rfl
        have HF := hide hf
        clear hf
        go_enter Tryz.func116, Tryz.ntmps116
        go_wp2_with fail
        refine cm.mono ?_
        rintro e w2 ⟨rfl, hb⟩
        have hb2 := hbz.trans (hb.mono hbz.size)
        have v2 := v0.later hb
        clear cm hw1 v0 hb j0 j1 j2 j3 j4 j5 j6 j7 j8 j9
        obtain ⟨j0, j1, j2, j3, j4, j5, j6, j7, j8, j9⟩ := v2.cells
        dsimp only at j0 j1 j2 j3 j4 j5 j6 j7 j8 j9
        go_wp2
        go_ret
        exact ⟨ret_int HF.out.symm, hb2⟩
      subst q3
      (try simp only [Int.natCast_zero] at *)
      by_cases q4 : vn = 0
      case neg =>
        have x1 : ((vn : Int) == 0) = false := by rw [beq_eq_false_iff_ne]; omega
        have x2 : ¬ ((vn : Int) = 0) := by omega
        have hf : ckE t n = 1 := by rw [not_of_iff HT.out (fun hh => by have e := (but2 (by rfl)).1 hh; simp only [Cx.m] at e; have e1 := e.1; rw [← HBM.out] at e1; cases e1)]; rfl
        have HF := hide hf
        clear hf
        go_enter Tryz.func116, Tryz.ntmps116
        go_wp2_with fail
        refine cm.mono ?_
        rintro e w2 ⟨rfl, hb⟩
        have hb2 := hbz.trans (hb.mono hbz.size)
        have v2 := v0.later hb
        clear cm hw1 v0 hb j0 j1 j2 j3 j4 j5 j6 j7 j8 j9
        obtain ⟨j0, j1, j2, j3, j4, j5, j6, j7, j8, j9⟩ := v2.cells
        dsimp only at j0 j1 j2 j3 j4 j5 j6 j7 j8 j9
        go_wp2
        go_ret
        exact ⟨ret_int HF.out.symm, hb2⟩
      subst q4
      (try simp only [Int.natCast_zero] at *)
      by_cases q5 : n = 0
      case neg =>
        have x1 : ((n : Int) == 0) = false := by rw [beq_eq_false_iff_ne]; omega
        have x2 : ¬ ((n : Int) = 0) := by omega
        have hf : ckE t n = 1 := by rw [not_of_iff HT.out (fun hh => by have e := (but2 (by rfl)).1 hh; simp only [Cx.m] at e; have e1 := e.1; rw [← HBM.out] at e1; cases e1)]; rfl
        have HF := hide hf
        clear hf
        go_enter Tryz.func116, Tryz.ntmps116
        go_wp2_with fail
        refine cm.mono ?_
        rintro e w2 ⟨rfl, hb⟩
        have hb2 := hbz.trans (hb.mono hbz.size)
        have v2 := v0.later hb
        clear cm hw1 v0 hb j0 j1 j2 j3 j4 j5 j6 j7 j8 j9
        obtain ⟨j0, j1, j2, j3, j4, j5, j6, j7, j8, j9⟩ := v2.cells
        dsimp only at j0 j1 j2 j3 j4 j5 j6 j7 j8 j9
        go_wp2
        go_ret
        exact ⟨ret_int HF.out.symm, hb2⟩
      subst q5
      (try simp only [Int.natCast_zero] at *)
      have hl0 : l = [] := List.eq_nil_of_length_eq_zero HLEN.out
      clear hl0
      have hf : ckE t 0 = 1 := by rw [not_of_iff HT.out (fun hh => by have e := (but2 (by rfl)).1 hh; simp only [Cx.m] at e; have e1 := e.1; rw [← HBM.out] at e1; cases e1)]; rfl
      have HF := hide hf
      clear hf
      go_enter Tryz.func116, Tryz.ntmps116
      go_wp2_with fail
      refine cm.mono ?_
      rintro e w2 ⟨rfl, hb⟩
      have hb2 := hbz.trans (hb.mono hbz.size)
      have v2 := v0.later hb
      clear cm hw1 v0 hb j0 j1 j2 j3 j4 j5 j6 j7 j8 j9
      obtain ⟨j0, j1, j2, j3, j4, j5, j6, j7, j8, j9⟩ := v2.cells
      dsimp only at j0 j1 j2 j3 j4 j5 j6 j7 j8 j9
      go_wp2
      go_ret
      exact ⟨ret_int HF.out.symm, hb2⟩
    case true =>
      have hkp : 0 < k := by have e := HBM.out.symm; unfold mayP at e; simp only [Bool.and_eq_true, decide_eq_true_eq] at e; exact e.2
      have y1 : ((k : Int) == 0) = false := by rw [beq_eq_false_iff_ne]; omega
      have y2 : ¬ ((k : Int) = 0) := by omega
      by_cases p0 : 1 ≤ num
      case neg =>
        have z0 : decide ((1 : Int) ≤ (num : Int)) = false := decide_eq_false (by omega)
        by_cases qi : i = 0
        case pos =>
          subst qi
          (try simp only [Int.natCast_zero] at *)
          have hf : ckE t n = 1 := by rw [not_of_iff HT.out (fun hh => by have e := (but2 (by rfl)).1 hh; simp only [Cx.m] at e; have e3 := e.2.1.1; omega)]; rfl
          have HF := hide hf
          clear hf
          go_enter Tryz.func116, Tryz.ntmps116
          go_wp2_with fail
          refine cm.mono ?_
          rintro e w2 ⟨rfl, hb⟩
          have hb2 := hbz.trans (hb.mono hbz.size)
          have v2 := v0.later hb
          clear cm hw1 v0 hb j0 j1 j2 j3 j4 j5 j6 j7 j8 j9
          obtain ⟨j0, j1, j2, j3, j4, j5, j6, j7, j8, j9⟩ := v2.cells
          dsimp only at j0 j1 j2 j3 j4 j5 j6 j7 j8 j9
          go_wp2
          go_ret
          exact ⟨ret_int HF.out.symm, hb2⟩
        have x1 : ((i : Int) == 0) = false := by rw [beq_eq_false_iff_ne]; omega
        have x2 : ¬ ((i : Int) = 0) := by omega
        have hf : ckE t n = 1 := by rw [not_of_iff HT.out (fun hh => by have e := (but2 (by rfl)).1 hh; simp only [Cx.m] at e; have e3 := e.2.1.1; omega)]; rfl
        have HF := hide hf
        clear hf
        go_enter Tryz.func116, Tryz.ntmps116
        go_wp2_with fail
        refine cm.mono ?_
        rintro e w2 ⟨rfl, hb⟩
        have hb2 := hbz.trans (hb.mono hbz.size)
        have v2 := v0.later hb
        clear cm hw1 v0 hb j0 j1 j2 j3 j4 j5 j6 j7 j8 j9
        obtain ⟨j0, j1, j2, j3, j4, j5, j6, j7, j8, j9⟩ := v2.cells
        dsimp only at j0 j1 j2 j3 j4 j5 j6 j7 j8 j9
        go_wp2
        go_ret
        exact ⟨ret_int HF.out.symm, hb2⟩
      have z0 : decide ((1 : Int) ≤ (num : Int)) = true := decide_eq_true (by omega)
      by_cases p1 : num ≤ 4611686018427387904
      case neg =>
        have z1 : decide ((num : Int) ≤ 4611686018427387904) = false := decide_eq_false (by omega)
        by_cases qi : i = 0
        case pos =>
          subst qi
          (try simp only [Int.natCast_zero] at *)
          have hf : ckE t n = 1 := by rw [not_of_iff HT.out (fun hh => by have e := (but2 (by rfl)).1 hh; simp only [Cx.m] at e; have e3 := e.2.1.2; omega)]; rfl
          have HF := hide hf
          clear hf
          go_enter Tryz.func116, Tryz.ntmps116
          go_wp2_with fail
          refine cm.mono ?_
          rintro e w2 ⟨rfl, hb⟩
          have hb2 := hbz.trans (hb.mono hbz.size)
          have v2 := v0.later hb
          clear cm hw1 v0 hb j0 j1 j2 j3 j4 j5 j6 j7 j8 j9
          obtain ⟨j0, j1, j2, j3, j4, j5, j6, j7, j8, j9⟩ := v2.cells
          dsimp only at j0 j1 j2 j3 j4 j5 j6 j7 j8 j9
          go_wp2
          go_ret
          exact ⟨ret_int HF.out.symm, hb2⟩
        have x1 : ((i : Int) == 0) = false := by rw [beq_eq_false_iff_ne]; omega
        have x2 : ¬ ((i : Int) = 0) := by omega
        have hf : ckE t n = 1 := by rw [not_of_iff HT.out (fun hh => by have e := (but2 (by rfl)).1 hh; simp only [Cx.m] at e; have e3 := e.2.1.2; omega)]; rfl
        have HF := hide hf
        clear hf
        go_enter Tryz.func116, Tryz.ntmps116
        go_wp2_with fail
        refine cm.mono ?_
        rintro e w2 ⟨rfl, hb⟩
        have hb2 := hbz.trans (hb.mono hbz.size)
        have v2 := v0.later hb
        clear cm hw1 v0 hb j0 j1 j2 j3 j4 j5 j6 j7 j8 j9
        obtain ⟨j0, j1, j2, j3, j4, j5, j6, j7, j8, j9⟩ := v2.cells
        dsimp only at j0 j1 j2 j3 j4 j5 j6 j7 j8 j9
        go_wp2
        go_ret
        exact ⟨ret_int HF.out.symm, hb2⟩
      have z1 : decide ((num : Int) ≤ 4611686018427387904) = true := decide_eq_true (by omega)
      by_cases p2 : 1 ≤ vn
      case neg =>
        have z2 : decide ((1 : Int) ≤ (vn : Int)) = false := decide_eq_false (by omega)
        by_cases qi : i = 0
        case pos =>
          subst qi
          (try simp only [Int.natCast_zero] at *)
          have hf : ckE t n = 1 := by rw [not_of_iff HT.out (fun hh => by have e := (but2 (by rfl)).1 hh; simp only [Cx.m] at e; have e3 := e.2.2.1.1; omega)]; rfl
          have HF := hide hf
          clear hf
          go_enter Tryz.func116, Tryz.ntmps116
          go_wp2_with fail
          refine cm.mono ?_
          rintro e w2 ⟨rfl, hb⟩
          have hb2 := hbz.trans (hb.mono hbz.size)
          have v2 := v0.later hb
          clear cm hw1 v0 hb j0 j1 j2 j3 j4 j5 j6 j7 j8 j9
          obtain ⟨j0, j1, j2, j3, j4, j5, j6, j7, j8, j9⟩ := v2.cells
          dsimp only at j0 j1 j2 j3 j4 j5 j6 j7 j8 j9
          go_wp2
          go_ret
          exact ⟨ret_int HF.out.symm, hb2⟩
        have x1 : ((i : Int) == 0) = false := by rw [beq_eq_false_iff_ne]; omega
        have x2 : ¬ ((i : Int) = 0) := by omega
        have hf : ckE t n = 1 := by rw [not_of_iff HT.out (fun hh => by have e := (but2 (by rfl)).1 hh; simp only [Cx.m] at e; have e3 := e.2.2.1.1; omega)]; rfl
        have HF := hide hf
        clear hf
        go_enter Tryz.func116, Tryz.ntmps116
        go_wp2_with fail
        refine cm.mono ?_
        rintro e w2 ⟨rfl, hb⟩
        have hb2 := hbz.trans (hb.mono hbz.size)
        have v2 := v0.later hb
        clear cm hw1 v0 hb j0 j1 j2 j3 j4 j5 j6 j7 j8 j9
        obtain ⟨j0, j1, j2, j3, j4, j5, j6, j7, j8, j9⟩ := v2.cells
        dsimp only at j0 j1 j2 j3 j4 j5 j6 j7 j8 j9
        go_wp2
        go_ret
        exact ⟨ret_int HF.out.symm, hb2⟩
      have z2 : decide ((1 : Int) ≤ (vn : Int)) = true := decide_eq_true (by omega)
      by_cases p3 : vn ≤ 4611686018427387904
      case neg =>
        have z3 : decide ((vn : Int) ≤ 4611686018427387904) = false := decide_eq_false (by omega)
        by_cases qi : i = 0
        case pos =>
          subst qi
          (try simp only [Int.natCast_zero] at *)
          have hf : ckE t n = 1 := by rw [not_of_iff HT.out (fun hh => by have e := (but2 (by rfl)).1 hh; simp only [Cx.m] at e; have e3 := e.2.2.1.2; omega)]; rfl
          have HF := hide hf
          clear hf
          go_enter Tryz.func116, Tryz.ntmps116
          go_wp2_with fail
          refine cm.mono ?_
          rintro e w2 ⟨rfl, hb⟩
          have hb2 := hbz.trans (hb.mono hbz.size)
          have v2 := v0.later hb
          clear cm hw1 v0 hb j0 j1 j2 j3 j4 j5 j6 j7 j8 j9
          obtain ⟨j0, j1, j2, j3, j4, j5, j6, j7, j8, j9⟩ := v2.cells
          dsimp only at j0 j1 j2 j3 j4 j5 j6 j7 j8 j9
          go_wp2
          go_ret
          exact ⟨ret_int HF.out.symm, hb2⟩
        have x1 : ((i : Int) == 0) = false := by rw [beq_eq_false_iff_ne]; omega
        have x2 : ¬ ((i : Int) = 0) := by omega
        have hf : ckE t n = 1 := by rw [not_of_iff HT.out (fun hh => by have e := (but2 (by rfl)).1 hh; simp only [Cx.m] at e; have e3 := e.2.2.1.2; omega)]; rfl
        have HF := hide hf
        clear hf
        go_enter Tryz.func116, Tryz.ntmps116
        go_wp2_with fail
        refine cm.mono ?_
        rintro e w2 ⟨rfl, hb⟩
        have hb2 := hbz.trans (hb.mono hbz.size)
        have v2 := v0.later hb
        clear cm hw1 v0 hb j0 j1 j2 j3 j4 j5 j6 j7 j8 j9
        obtain ⟨j0, j1, j2, j3, j4, j5, j6, j7, j8, j9⟩ := v2.cells
        dsimp only at j0 j1 j2 j3 j4 j5 j6 j7 j8 j9
        go_wp2
        go_ret
        exact ⟨ret_int HF.out.symm, hb2⟩
      have z3 : decide ((vn : Int) ≤ 4611686018427387904) = true := decide_eq_true (by omega)
      have hf : t = u := by rw [Bool.eq_iff_iff, HT.out, HU.out.1, but2 rfl]; exact ⟨fun e => e.2.2.2, fun e => ⟨HBM.out.symm, ⟨p0, p1⟩, ⟨p2, p3⟩, e⟩⟩
      have HF := hide hf
      clear hf
      by_cases qi : i = 0
      case pos =>
        subst qi
        (try simp only [Int.natCast_zero] at *)
        go_enter Tryz.func116, Tryz.ntmps116
        go_wp2_with fail
        refine cm.mono ?_
        rintro e w2 ⟨rfl, hb⟩
        have hb2 := hbz.trans (hb.mono hbz.size)
        have v2 := v0.later hb
        clear cm hw1 v0 hb j0 j1 j2 j3 j4 j5 j6 j7 j8 j9
        obtain ⟨j0, j1, j2, j3, j4, j5, j6, j7, j8, j9⟩ := v2.cells
        dsimp only at j0 j1 j2 j3 j4 j5 j6 j7 j8 j9
        have cn := CN w2 hb2
        go_wp2_with fail
        refine cn.mono ?_
        rintro e w3 ⟨rfl, hb⟩
        have hb3 := hb2.trans (hb.mono hb2.size)
        have v3 := v2.later hb
        clear cn v2 hb j0 j1 j2 j3 j4 j5 j6 j7 j8 j9
        obtain ⟨j0, j1, j2, j3, j4, j5, j6, j7, j8, j9⟩ := v3.cells
        dsimp only at j0 j1 j2 j3 j4 j5 j6 j7 j8 j9
        cases u
        · go_wp2
          go_ret
          exact ⟨ret_int (by rw [HF.out]; rfl), hb3⟩
        by_cases hn : 200 < n
        · have x3 : decide ((200 : Int) < (n : Int)) = true := decide_eq_true (by omega)
          have HN := hide hn
          clear hn
          go_wp2
          go_ret
          exact ⟨ret_int (by rw [HF.out, ckE_long HN.out]), hb3⟩
        · have x3 : decide ((200 : Int) < (n : Int)) = false := decide_eq_false (by omega)
          have HN := hide hn
          clear hn
          go_wp2
          go_ret
          exact ⟨ret_int (by rw [HF.out, ckE_ok HN.out]), hb3⟩
      have x1 : ((i : Int) == 0) = false := by rw [beq_eq_false_iff_ne]; omega
      have x2 : ¬ ((i : Int) = 0) := by omega
      go_enter Tryz.func116, Tryz.ntmps116
      go_wp2_with fail
      refine cm.mono ?_
      rintro e w2 ⟨rfl, hb⟩
      have hb2 := hbz.trans (hb.mono hbz.size)
      have v2 := v0.later hb
      clear cm hw1 v0 hb j0 j1 j2 j3 j4 j5 j6 j7 j8 j9
      obtain ⟨j0, j1, j2, j3, j4, j5, j6, j7, j8, j9⟩ := v2.cells
      dsimp only at j0 j1 j2 j3 j4 j5 j6 j7 j8 j9
      have cn := CN w2 hb2
      go_wp2_with fail
      refine cn.mono ?_
      rintro e w3 ⟨rfl, hb⟩
      have hb3 := hb2.trans (hb.mono hb2.size)
      have v3 := v2.later hb
      clear cn v2 hb j0 j1 j2 j3 j4 j5 j6 j7 j8 j9
      obtain ⟨j0, j1, j2, j3, j4, j5, j6, j7, j8, j9⟩ := v3.cells
      dsimp only at j0 j1 j2 j3 j4 j5 j6 j7 j8 j9
      cases u
      · go_wp2
        go_ret
        exact ⟨ret_int (by rw [HF.out]; rfl), hb3⟩
      by_cases hn : 200 < n
      · have x3 : decide ((200 : Int) < (n : Int)) = true := decide_eq_true (by omega)
        have HN := hide hn
        clear hn
        go_wp2
        go_ret
        exact ⟨ret_int (by rw [HF.out, ckE_long HN.out]), hb3⟩
      · have x3 : decide ((200 : Int) < (n : Int)) = false := decide_eq_false (by omega)
        have HN := hide hn
        clear hn
        go_wp2
        go_ret
        exact ⟨ret_int (by rw [HF.out, ckE_ok HN.out]), hb3⟩
  have r2 : (kind == 2) = false := by rw [beq_eq_false_iff_ne]; exact k2
  by_cases k3 : kind = 3
  case pos =>
    subst k3
    cases b
    case false =>
      by_cases q1 : i = 0
      case neg =>
        have x1 : ((i : Int) == 0) = false := by rw [beq_eq_false_iff_ne]; omega
        have x2 : ¬ ((i : Int) = 0) := by omega
        have hf : ckE t n = 1 := by rw [not_of_iff HT.out (fun hh => by have e := (but3 (by rfl)).1 hh; have e2 := e.2; simp only [Cx.m, zC, Cm.mk.injEq] at e2; have e3 := pr_zero e2.2.1; omega)]; rfl
        have HF := hide hf
        clear hf
        go_enter Tryz.func116, Tryz.ntmps116
        go_wp2_with fail
        refine cm.mono ?_
        rintro e w2 ⟨rfl, hb⟩
        have hb2 := hbz.trans (hb.mono hbz.size)
        have v2 := v0.later hb
        clear cm hw1 v0 hb j0 j1 j2 j3 j4 j5 j6 j7 j8 j9
        obtain ⟨j0, j1, j2, j3, j4, j5, j6, j7, j8, j9⟩ := v2.cells
        dsimp only at j0 j1 j2 j3 j4 j5 j6 j7 j8 j9
        go_wp2
        go_ret
        exact ⟨ret_int HF.out.symm, hb2⟩
      subst q1
      (try simp only [Int.natCast_zero] at *)
      by_cases q2 : k = 0
      case neg =>
        have x1 : ((k : Int) == 0) = false := by rw [beq_eq_false_iff_ne]; omega
        have x2 : ¬ ((k : Int) = 0) := by omega
        have hf : ckE t n = 1 := by rw [not_of_iff HT.out (fun hh => by have e := (but3 (by rfl)).1 hh; have e2 := e.2; simp only [Cx.m, zC, Cm.mk.injEq] at e2; have e3 := pr_zero e2.2.1; omega)]; rfl
        have HF := hide hf
        clear hf
        go_enter Tryz.func116, Tryz.ntmps116
        go_wp2_with fail
        refine cm.mono ?_
        rintro e w2 ⟨rfl, hb⟩
        have hb2 := hbz.trans (hb.mono hbz.size)
        have v2 := v0.later hb
        clear cm hw1 v0 hb j0 j1 j2 j3 j4 j5 j6 j7 j8 j9
        obtain ⟨j0, j1, j2, j3, j4, j5, j6, j7, j8, j9⟩ := v2.cells
        dsimp only at j0 j1 j2 j3 j4 j5 j6 j7 j8 j9
        go_wp2
        go_ret
        exact ⟨ret_int HF.out.symm, hb2⟩
      subst q2
      (try simp only [Int.natCast_zero] at *)
      by_cases q3 : num = 0
      case neg =>
        have x1 : ((num : Int) == 0) = false := by rw [beq_eq_false_iff_ne]; omega
        have x2 : ¬ ((num : Int) = 0) := by omega
        have hf : ckE t n = 1 := by rw [not_of_iff HT.out (fun hh => by have e := (but3 (by rfl)).1 hh; have e2 := e.2; simp only [Cx.m, zC, Cm.mk.injEq] at e2; have e3 := e2.2.2.1; omega)]; rfl
        have HF := hide hf
        clear hf
        go_enter Tryz.func116, Tryz.ntmps116
        go_wp2_with fail
        refine cm.mono ?_
        rintro e w2 ⟨rfl, hb⟩
        have hb2 := hbz.trans (hb.mono hbz.size)
        have v2 := v0.later hb
        clear cm hw1 v0 hb j0 j1 j2 j3 j4 j5 j6 j7 j8 j9
        obtain ⟨j0, j1, j2, j3, j4, j5, j6, j7, j8, j9⟩ := v2.cells
        dsimp only at j0 j1 j2 j3 j4 j5 j6 j7 j8 j9
        go_wp2
        go_ret
        exact ⟨ret_int HF.out.symm, hb2⟩
      subst q3
      (try simp only [Int.natCast_zero] at *)
      by_cases q4 : vn = 0
      case neg =>
        have x1 : ((vn : Int) == 0) = false := by rw [beq_eq_false_iff_ne]; omega
        have x2 : ¬ ((vn : Int) = 0) := by omega
        have hf : ckE t n = 1 := by rw [not_of_iff HT.out (fun hh => by have e := (but3 (by rfl)).1 hh; have e2 := e.2; simp only [Cx.m, zC, Cm.mk.injEq] at e2; have e3 := e2.2.2.2.1; omega)]; rfl
        have HF := hide hf
        clear hf
        go_enter Tryz.func116, Tryz.ntmps116
        go_wp2_with fail
        refine cm.mono ?_
        rintro e w2 ⟨rfl, hb⟩
        have hb2 := hbz.trans (hb.mono hbz.size)
        have v2 := v0.later hb
        clear cm hw1 v0 hb j0 j1 j2 j3 j4 j5 j6 j7 j8 j9
        obtain ⟨j0, j1, j2, j3, j4, j5, j6, j7, j8, j9⟩ := v2.cells
        dsimp only at j0 j1 j2 j3 j4 j5 j6 j7 j8 j9
        go_wp2
        go_ret
        exact ⟨ret_int HF.out.symm, hb2⟩
      subst q4
      (try simp only [Int.natCast_zero] at *)
      by_cases q5 : n = 0
      case neg =>
        have x1 : ((n : Int) == 0) = false := by rw [beq_eq_false_iff_ne]; omega
        have x2 : ¬ ((n : Int) = 0) := by omega
        have hf : ckE t n = 1 := by rw [not_of_iff HT.out (fun hh => by have e := (but3 (by rfl)).1 hh; have e2 := e.2; simp only [Cx.m, zC, Cm.mk.injEq] at e2; have e3 := e2.2.2.2.2.1; have e4 := HLEN.out; rw [e3] at e4; exact q5 e4.symm)]; rfl
        have HF := hide hf
        clear hf
        go_enter Tryz.func116, Tryz.ntmps116
        go_wp2_with fail
        refine cm.mono ?_
        rintro e w2 ⟨rfl, hb⟩
        have hb2 := hbz.trans (hb.mono hbz.size)
        have v2 := v0.later hb
        clear cm hw1 v0 hb j0 j1 j2 j3 j4 j5 j6 j7 j8 j9
        obtain ⟨j0, j1, j2, j3, j4, j5, j6, j7, j8, j9⟩ := v2.cells
        dsimp only at j0 j1 j2 j3 j4 j5 j6 j7 j8 j9
        go_wp2
        go_ret
        exact ⟨ret_int HF.out.symm, hb2⟩
      subst q5
      (try simp only [Int.natCast_zero] at *)
      have hl0 : l = [] := List.eq_nil_of_length_eq_zero HLEN.out
      have hf : t = u3 := by rw [Bool.eq_iff_iff, HT.out, HU.out.2, but3 rfl]; exact ⟨fun e => e.1, fun e => ⟨e, Cm.ext' rfl rfl rfl rfl hl0 rfl⟩⟩
      have HF := hide hf
      clear hf hl0
      go_enter Tryz.func116, Tryz.ntmps116
      go_wp2_with fail
      refine cm.mono ?_
      rintro e w2 ⟨rfl, hb⟩
      have hb2 := hbz.trans (hb.mono hbz.size)
      have v2 := v0.later hb
      clear cm hw1 v0 hb j0 j1 j2 j3 j4 j5 j6 j7 j8 j9
      obtain ⟨j0, j1, j2, j3, j4, j5, j6, j7, j8, j9⟩ := v2.cells
      dsimp only at j0 j1 j2 j3 j4 j5 j6 j7 j8 j9
      have cn := CV w2 hb2
      go_wp2_with fail
      refine cn.mono ?_
      rintro e w3 ⟨rfl, hb⟩
      have hb3 := hb2.trans (hb.mono hb2.size)
      have v3 := v2.later hb
      clear cn v2 hb j0 j1 j2 j3 j4 j5 j6 j7 j8 j9
      obtain ⟨j0, j1, j2, j3, j4, j5, j6, j7, j8, j9⟩ := v3.cells
      dsimp only at j0 j1 j2 j3 j4 j5 j6 j7 j8 j9
      cases u3
      · go_wp2
        go_ret
        exact ⟨ret_int (by rw [HF.out]; rfl), hb3⟩
      · go_wp2
        go_ret
        exact ⟨ret_int (by rw [HF.out]; rfl), hb3⟩
    case true =>
      have hkp : 0 < k := by have e := HBM.out.symm; unfold mayP at e; simp only [Bool.and_eq_true, decide_eq_true_eq] at e; exact e.2
      have y1 : ((k : Int) == 0) = false := by rw [beq_eq_false_iff_ne]; omega
      have y2 : ¬ ((k : Int) = 0) := by omega
      by_cases p0 : 1 ≤ num
      case neg =>
        have z0 : decide ((1 : Int) ≤ (num : Int)) = false := decide_eq_false (by omega)
        by_cases qi : i = 0
        case pos =>
          subst qi
          (try simp only [Int.natCast_zero] at *)
          have hf : ckE t n = 1 := by rw [not_of_iff HT.out (fun hh => by have e := (but3 (by rfl)).1 hh; have e2 := e.2; simp only [Cx.m, zC, Cm.mk.injEq] at e2; have e3 := pr_zero e2.2.1; omega)]; rfl
          have HF := hide hf
          clear hf
          go_enter Tryz.func116, Tryz.ntmps116
          go_wp2_with fail
          refine cm.mono ?_
          rintro e w2 ⟨rfl, hb⟩
          have hb2 := hbz.trans (hb.mono hbz.size)
          have v2 := v0.later hb
          clear cm hw1 v0 hb j0 j1 j2 j3 j4 j5 j6 j7 j8 j9
          obtain ⟨j0, j1, j2, j3, j4, j5, j6, j7, j8, j9⟩ := v2.cells
          dsimp only at j0 j1 j2 j3 j4 j5 j6 j7 j8 j9
          go_wp2
          go_ret
          exact ⟨ret_int HF.out.symm, hb2⟩
        have x1 : ((i : Int) == 0) = false := by rw [beq_eq_false_iff_ne]; omega
        have x2 : ¬ ((i : Int) = 0) := by omega
        have hf : ckE t n = 1 := by rw [not_of_iff HT.out (fun hh => by have e := (but3 (by rfl)).1 hh; have e2 := e.2; simp only [Cx.m, zC, Cm.mk.injEq] at e2; have e3 := pr_zero e2.2.1; omega)]; rfl
        have HF := hide hf
        clear hf
        go_enter Tryz.func116, Tryz.ntmps116
        go_wp2_with fail
        refine cm.mono ?_
        rintro e w2 ⟨rfl, hb⟩
        have hb2 := hbz.trans (hb.mono hbz.size)
        have v2 := v0.later hb
        clear cm hw1 v0 hb j0 j1 j2 j3 j4 j5 j6 j7 j8 j9
        obtain ⟨j0, j1, j2, j3, j4, j5, j6, j7, j8, j9⟩ := v2.cells
        dsimp only at j0 j1 j2 j3 j4 j5 j6 j7 j8 j9
        go_wp2
        go_ret
        exact ⟨ret_int HF.out.symm, hb2⟩
      have z0 : decide ((1 : Int) ≤ (num : Int)) = true := decide_eq_true (by omega)
      by_cases p1 : num ≤ 4611686018427387904
      case neg =>
        have z1 : decide ((num : Int) ≤ 4611686018427387904) = false := decide_eq_false (by omega)
        by_cases qi : i = 0
        case pos =>
          subst qi
          (try simp only [Int.natCast_zero] at *)
          have hf : ckE t n = 1 := by rw [not_of_iff HT.out (fun hh => by have e := (but3 (by rfl)).1 hh; have e2 := e.2; simp only [Cx.m, zC, Cm.mk.injEq] at e2; have e3 := pr_zero e2.2.1; omega)]; rfl
          have HF := hide hf
          clear hf
          go_enter Tryz.func116, Tryz.ntmps116
          go_wp2_with fail
          refine cm.mono ?_
          rintro e w2 ⟨rfl, hb⟩
          have hb2 := hbz.trans (hb.mono hbz.size)
          have v2 := v0.later hb
          clear cm hw1 v0 hb j0 j1 j2 j3 j4 j5 j6 j7 j8 j9
          obtain ⟨j0, j1, j2, j3, j4, j5, j6, j7, j8, j9⟩ := v2.cells
          dsimp only at j0 j1 j2 j3 j4 j5 j6 j7 j8 j9
          go_wp2
          go_ret
          exact ⟨ret_int HF.out.symm, hb2⟩
        have x1 : ((i : Int) == 0) = false := by rw [beq_eq_false_iff_ne]; omega
        have x2 : ¬ ((i : Int) = 0) := by omega
        have hf : ckE t n = 1 := by rw [not_of_iff HT.out (fun hh => by have e := (but3 (by rfl)).1 hh; have e2 := e.2; simp only [Cx.m, zC, Cm.mk.injEq] at e2; have e3 := pr_zero e2.2.1; omega)]; rfl
        have HF := hide hf
        clear hf
        go_enter Tryz.func116, Tryz.ntmps116
        go_wp2_with fail
        refine cm.mono ?_
        rintro e w2 ⟨rfl, hb⟩
        have hb2 := hbz.trans (hb.mono hbz.size)
        have v2 := v0.later hb
        clear cm hw1 v0 hb j0 j1 j2 j3 j4 j5 j6 j7 j8 j9
        obtain ⟨j0, j1, j2, j3, j4, j5, j6, j7, j8, j9⟩ := v2.cells
        dsimp only at j0 j1 j2 j3 j4 j5 j6 j7 j8 j9
        go_wp2
        go_ret
        exact ⟨ret_int HF.out.symm, hb2⟩
      have z1 : decide ((num : Int) ≤ 4611686018427387904) = true := decide_eq_true (by omega)
      by_cases p2 : 1 ≤ vn
      case neg =>
        have z2 : decide ((1 : Int) ≤ (vn : Int)) = false := decide_eq_false (by omega)
        by_cases qi : i = 0
        case pos =>
          subst qi
          (try simp only [Int.natCast_zero] at *)
          have hf : ckE t n = 1 := by rw [not_of_iff HT.out (fun hh => by have e := (but3 (by rfl)).1 hh; have e2 := e.2; simp only [Cx.m, zC, Cm.mk.injEq] at e2; have e3 := pr_zero e2.2.1; omega)]; rfl
          have HF := hide hf
          clear hf
          go_enter Tryz.func116, Tryz.ntmps116
          go_wp2_with fail
          refine cm.mono ?_
          rintro e w2 ⟨rfl, hb⟩
          have hb2 := hbz.trans (hb.mono hbz.size)
          have v2 := v0.later hb
          clear cm hw1 v0 hb j0 j1 j2 j3 j4 j5 j6 j7 j8 j9
          obtain ⟨j0, j1, j2, j3, j4, j5, j6, j7, j8, j9⟩ := v2.cells
          dsimp only at j0 j1 j2 j3 j4 j5 j6 j7 j8 j9
          go_wp2
          go_ret
          exact ⟨ret_int HF.out.symm, hb2⟩
        have x1 : ((i : Int) == 0) = false := by rw [beq_eq_false_iff_ne]; omega
        have x2 : ¬ ((i : Int) = 0) := by omega
        have hf : ckE t n = 1 := by rw [not_of_iff HT.out (fun hh => by have e := (but3 (by rfl)).1 hh; have e2 := e.2; simp only [Cx.m, zC, Cm.mk.injEq] at e2; have e3 := pr_zero e2.2.1; omega)]; rfl
        have HF := hide hf
        clear hf
        go_enter Tryz.func116, Tryz.ntmps116
        go_wp2_with fail
        refine cm.mono ?_
        rintro e w2 ⟨rfl, hb⟩
        have hb2 := hbz.trans (hb.mono hbz.size)
        have v2 := v0.later hb
        clear cm hw1 v0 hb j0 j1 j2 j3 j4 j5 j6 j7 j8 j9
        obtain ⟨j0, j1, j2, j3, j4, j5, j6, j7, j8, j9⟩ := v2.cells
        dsimp only at j0 j1 j2 j3 j4 j5 j6 j7 j8 j9
        go_wp2
        go_ret
        exact ⟨ret_int HF.out.symm, hb2⟩
      have z2 : decide ((1 : Int) ≤ (vn : Int)) = true := decide_eq_true (by omega)
      by_cases p3 : vn ≤ 4611686018427387904
      case neg =>
        have z3 : decide ((vn : Int) ≤ 4611686018427387904) = false := decide_eq_false (by omega)
        by_cases qi : i = 0
        case pos =>
          subst qi
          (try simp only [Int.natCast_zero] at *)
          have hf : ckE t n = 1 := by rw [not_of_iff HT.out (fun hh => by have e := (but3 (by rfl)).1 hh; have e2 := e.2; simp only [Cx.m, zC, Cm.mk.injEq] at e2; have e3 := pr_zero e2.2.1; omega)]; rfl
          have HF := hide hf
          clear hf
          go_enter Tryz.func116, Tryz.ntmps116
          go_wp2_with fail
          refine cm.mono ?_
          rintro e w2 ⟨rfl, hb⟩
          have hb2 := hbz.trans (hb.mono hbz.size)
          have v2 := v0.later hb
          clear cm hw1 v0 hb j0 j1 j2 j3 j4 j5 j6 j7 j8 j9
          obtain ⟨j0, j1, j2, j3, j4, j5, j6, j7, j8, j9⟩ := v2.cells
          dsimp only at j0 j1 j2 j3 j4 j5 j6 j7 j8 j9
          go_wp2
          go_ret
          exact ⟨ret_int HF.out.symm, hb2⟩
        have x1 : ((i : Int) == 0) = false := by rw [beq_eq_false_iff_ne]; omega
        have x2 : ¬ ((i : Int) = 0) := by omega
        have hf : ckE t n = 1 := by rw [not_of_iff HT.out (fun hh => by have e := (but3 (by rfl)).1 hh; have e2 := e.2; simp only [Cx.m, zC, Cm.mk.injEq] at e2; have e3 := pr_zero e2.2.1; omega)]; rfl
        have HF := hide hf
        clear hf
        go_enter Tryz.func116, Tryz.ntmps116
        go_wp2_with fail
        refine cm.mono ?_
        rintro e w2 ⟨rfl, hb⟩
        have hb2 := hbz.trans (hb.mono hbz.size)
        have v2 := v0.later hb
        clear cm hw1 v0 hb j0 j1 j2 j3 j4 j5 j6 j7 j8 j9
        obtain ⟨j0, j1, j2, j3, j4, j5, j6, j7, j8, j9⟩ := v2.cells
        dsimp only at j0 j1 j2 j3 j4 j5 j6 j7 j8 j9
        go_wp2
        go_ret
        exact ⟨ret_int HF.out.symm, hb2⟩
      have z3 : decide ((vn : Int) ≤ 4611686018427387904) = true := decide_eq_true (by omega)
      by_cases qi : i = 0
      case pos =>
        subst qi
        (try simp only [Int.natCast_zero] at *)
        have hf : ckE t n = 1 := by rw [not_of_iff HT.out (fun hh => by have e := (but3 (by rfl)).1 hh; have e2 := e.2; simp only [Cx.m, zC, Cm.mk.injEq] at e2; have e3 := pr_zero e2.2.1; omega)]; rfl
        have HF := hide hf
        clear hf
        go_enter Tryz.func116, Tryz.ntmps116
        go_wp2_with fail
        refine cm.mono ?_
        rintro e w2 ⟨rfl, hb⟩
        have hb2 := hbz.trans (hb.mono hbz.size)
        have v2 := v0.later hb
        clear cm hw1 v0 hb j0 j1 j2 j3 j4 j5 j6 j7 j8 j9
        obtain ⟨j0, j1, j2, j3, j4, j5, j6, j7, j8, j9⟩ := v2.cells
        dsimp only at j0 j1 j2 j3 j4 j5 j6 j7 j8 j9
        go_wp2
        go_ret
        exact ⟨ret_int HF.out.symm, hb2⟩
      have x1 : ((i : Int) == 0) = false := by rw [beq_eq_false_iff_ne]; omega
      have x2 : ¬ ((i : Int) = 0) := by omega
      have hf : ckE t n = 1 := by rw [not_of_iff HT.out (fun hh => by have e := (but3 (by rfl)).1 hh; have e2 := e.2; simp only [Cx.m, zC, Cm.mk.injEq] at e2; have e3 := pr_zero e2.2.1; omega)]; rfl
      have HF := hide hf
      clear hf
      go_enter Tryz.func116, Tryz.ntmps116
      go_wp2_with fail
      refine cm.mono ?_
      rintro e w2 ⟨rfl, hb⟩
      have hb2 := hbz.trans (hb.mono hbz.size)
      have v2 := v0.later hb
      clear cm hw1 v0 hb j0 j1 j2 j3 j4 j5 j6 j7 j8 j9
      obtain ⟨j0, j1, j2, j3, j4, j5, j6, j7, j8, j9⟩ := v2.cells
      dsimp only at j0 j1 j2 j3 j4 j5 j6 j7 j8 j9
      go_wp2
      go_ret
      exact ⟨ret_int HF.out.symm, hb2⟩
  have r3 : (kind == 3) = false := by rw [beq_eq_false_iff_ne]; exact k3
  cases b
  case false =>
    by_cases q1 : i = 0
    case neg =>
      have x1 : ((i : Int) == 0) = false := by rw [beq_eq_false_iff_ne]; omega
      have x2 : ¬ ((i : Int) = 0) := by omega
      have hf : ckE t n = 1 := by rw [not_of_iff HT.out (fun hh => absurd hh (but0 k1 k2 k3))]; rfl
      have HF := hide hf
      clear hf
      go_enter Tryz.func116, Tryz.ntmps116
      go_wp2_with fail
      refine cm.mono ?_
      rintro e w2 ⟨rfl, hb⟩
      have hb2 := hbz.trans (hb.mono hbz.size)
      have v2 := v0.later hb
      clear cm hw1 v0 hb j0 j1 j2 j3 j4 j5 j6 j7 j8 j9
      obtain ⟨j0, j1, j2, j3, j4, j5, j6, j7, j8, j9⟩ := v2.cells
      dsimp only at j0 j1 j2 j3 j4 j5 j6 j7 j8 j9
      go_wp2
      go_ret
      exact ⟨ret_int HF.out.symm, hb2⟩
    subst q1
    (try simp only [Int.natCast_zero] at *)
    by_cases q2 : k = 0
    case neg =>
      have x1 : ((k : Int) == 0) = false := by rw [beq_eq_false_iff_ne]; omega
      have x2 : ¬ ((k : Int) = 0) := by omega
      have hf : ckE t n = 1 := by rw [not_of_iff HT.out (fun hh => absurd hh (but0 k1 k2 k3))]; rfl
      have HF := hide hf
      clear hf
      go_enter Tryz.func116, Tryz.ntmps116
      go_wp2_with fail
      refine cm.mono ?_
      rintro e w2 ⟨rfl, hb⟩
      have hb2 := hbz.trans (hb.mono hbz.size)
      have v2 := v0.later hb
      clear cm hw1 v0 hb j0 j1 j2 j3 j4 j5 j6 j7 j8 j9
      obtain ⟨j0, j1, j2, j3, j4, j5, j6, j7, j8, j9⟩ := v2.cells
      dsimp only at j0 j1 j2 j3 j4 j5 j6 j7 j8 j9
      go_wp2
      go_ret
      exact ⟨ret_int HF.out.symm, hb2⟩
    subst q2
    (try simp only [Int.natCast_zero] at *)
    by_cases q3 : num = 0
    case neg =>
      have x1 : ((num : Int) == 0) = false := by rw [beq_eq_false_iff_ne]; omega
      have x2 : ¬ ((num : Int) = 0) := by omega
      have hf : ckE t n = 1 := by rw [not_of_iff HT.out (fun hh => absurd hh (but0 k1 k2 k3))]; rfl
      have HF := hide hf
      clear hf
      go_enter Tryz.func116, Tryz.ntmps116
      go_wp2_with fail
      refine cm.mono ?_
      rintro e w2 ⟨rfl, hb⟩
      have hb2 := hbz.trans (hb.mono hbz.size)
      have v2 := v0.later hb
      clear cm hw1 v0 hb j0 j1 j2 j3 j4 j5 j6 j7 j8 j9
      obtain ⟨j0, j1, j2, j3, j4, j5, j6, j7, j8, j9⟩ := v2.cells
      dsimp only at j0 j1 j2 j3 j4 j5 j6 j7 j8 j9
      go_wp2
      go_ret
      exact ⟨ret_int HF.out.symm, hb2⟩
    subst q3
    (try simp only [Int.natCast_zero] at *)
    by_cases q4 : vn = 0
    case neg =>
      have x1 : ((vn : Int) == 0) = false := by rw [beq_eq_false_iff_ne]; omega
      have x2 : ¬ ((vn : Int) = 0) := by omega
      have hf : ckE t n = 1 := by rw [not_of_iff HT.out (fun hh => absurd hh (but0 k1 k2 k3))]; rfl
      have HF := hide hf
      clear hf
      go_enter Tryz.func116, Tryz.ntmps116
      go_wp2_with fail
      refine cm.mono ?_
      rintro e w2 ⟨rfl, hb⟩
      have hb2 := hbz.trans (hb.mono hbz.size)
      have v2 := v0.later hb
      clear cm hw1 v0 hb j0 j1 j2 j3 j4 j5 j6 j7 j8 j9
      obtain ⟨j0, j1, j2, j3, j4, j5, j6, j7, j8, j9⟩ := v2.cells
      dsimp only at j0 j1 j2 j3 j4 j5 j6 j7 j8 j9
      go_wp2
      go_ret
      exact ⟨ret_int HF.out.symm, hb2⟩
    subst q4
    (try simp only [Int.natCast_zero] at *)
    by_cases q5 : n = 0
    case neg =>
      have x1 : ((n : Int) == 0) = false := by rw [beq_eq_false_iff_ne]; omega
      have x2 : ¬ ((n : Int) = 0) := by omega
      have hf : ckE t n = 1 := by rw [not_of_iff HT.out (fun hh => absurd hh (but0 k1 k2 k3))]; rfl
      have HF := hide hf
      clear hf
      go_enter Tryz.func116, Tryz.ntmps116
      go_wp2_with fail
      refine cm.mono ?_
      rintro e w2 ⟨rfl, hb⟩
      have hb2 := hbz.trans (hb.mono hbz.size)
      have v2 := v0.later hb
      clear cm hw1 v0 hb j0 j1 j2 j3 j4 j5 j6 j7 j8 j9
      obtain ⟨j0, j1, j2, j3, j4, j5, j6, j7, j8, j9⟩ := v2.cells
      dsimp only at j0 j1 j2 j3 j4 j5 j6 j7 j8 j9
      go_wp2
      go_ret
      exact ⟨ret_int HF.out.symm, hb2⟩
    subst q5
    (try simp only [Int.natCast_zero] at *)
    have hl0 : l = [] := List.eq_nil_of_length_eq_zero HLEN.out
    clear hl0
    have hf : ckE t 0 = 1 := by rw [not_of_iff HT.out (fun hh => absurd hh (but0 k1 k2 k3))]; rfl
    have HF := hide hf
    clear hf
    go_enter Tryz.func116, Tryz.ntmps116
    go_wp2_with fail
    refine cm.mono ?_
    rintro e w2 ⟨rfl, hb⟩
    have hb2 := hbz.trans (hb.mono hbz.size)
    have v2 := v0.later hb
    clear cm hw1 v0 hb j0 j1 j2 j3 j4 j5 j6 j7 j8 j9
    obtain ⟨j0, j1, j2, j3, j4, j5, j6, j7, j8, j9⟩ := v2.cells
    dsimp only at j0 j1 j2 j3 j4 j5 j6 j7 j8 j9
    go_wp2
    go_ret
    exact ⟨ret_int HF.out.symm, hb2⟩
  case true =>
    have hkp : 0 < k := by have e := HBM.out.symm; unfold mayP at e; simp only [Bool.and_eq_true, decide_eq_true_eq] at e; exact e.2
    have y1 : ((k : Int) == 0) = false := by rw [beq_eq_false_iff_ne]; omega
    have y2 : ¬ ((k : Int) = 0) := by omega
    by_cases p0 : 1 ≤ num
    case neg =>
      have z0 : decide ((1 : Int) ≤ (num : Int)) = false := decide_eq_false (by omega)
      by_cases qi : i = 0
      case pos =>
        subst qi
        (try simp only [Int.natCast_zero] at *)
        have hf : ckE t n = 1 := by rw [not_of_iff HT.out (fun hh => absurd hh (but0 k1 k2 k3))]; rfl
        have HF := hide hf
        clear hf
        go_enter Tryz.func116, Tryz.ntmps116
        go_wp2_with fail
        refine cm.mono ?_
        rintro e w2 ⟨rfl, hb⟩
        have hb2 := hbz.trans (hb.mono hbz.size)
        have v2 := v0.later hb
        clear cm hw1 v0 hb j0 j1 j2 j3 j4 j5 j6 j7 j8 j9
        obtain ⟨j0, j1, j2, j3, j4, j5, j6, j7, j8, j9⟩ := v2.cells
        dsimp only at j0 j1 j2 j3 j4 j5 j6 j7 j8 j9
        go_wp2
        go_ret
        exact ⟨ret_int HF.out.symm, hb2⟩
      have x1 : ((i : Int) == 0) = false := by rw [beq_eq_false_iff_ne]; omega
      have x2 : ¬ ((i : Int) = 0) := by omega
      have hf : ckE t n = 1 := by rw [not_of_iff HT.out (fun hh => absurd hh (but0 k1 k2 k3))]; rfl
      have HF := hide hf
      clear hf
      go_enter Tryz.func116, Tryz.ntmps116
      go_wp2_with fail
      refine cm.mono ?_
      rintro e w2 ⟨rfl, hb⟩
      have hb2 := hbz.trans (hb.mono hbz.size)
      have v2 := v0.later hb
      clear cm hw1 v0 hb j0 j1 j2 j3 j4 j5 j6 j7 j8 j9
      obtain ⟨j0, j1, j2, j3, j4, j5, j6, j7, j8, j9⟩ := v2.cells
      dsimp only at j0 j1 j2 j3 j4 j5 j6 j7 j8 j9
      go_wp2
      go_ret
      exact ⟨ret_int HF.out.symm, hb2⟩
    have z0 : decide ((1 : Int) ≤ (num : Int)) = true := decide_eq_true (by omega)
    by_cases p1 : num ≤ 4611686018427387904
    case neg =>
      have z1 : decide ((num : Int) ≤ 4611686018427387904) = false := decide_eq_false (by omega)
      by_cases qi : i = 0
      case pos =>
        subst qi
        (try simp only [Int.natCast_zero] at *)
        have hf : ckE t n = 1 := by rw [not_of_iff HT.out (fun hh => absurd hh (but0 k1 k2 k3))]; rfl
        have HF := hide hf
        clear hf
        go_enter Tryz.func116, Tryz.ntmps116
        go_wp2_with fail
        refine cm.mono ?_
        rintro e w2 ⟨rfl, hb⟩
        have hb2 := hbz.trans (hb.mono hbz.size)
        have v2 := v0.later hb
        clear cm hw1 v0 hb j0 j1 j2 j3 j4 j5 j6 j7 j8 j9
        obtain ⟨j0, j1, j2, j3, j4, j5, j6, j7, j8, j9⟩ := v2.cells
        dsimp only at j0 j1 j2 j3 j4 j5 j6 j7 j8 j9
        go_wp2
        go_ret
        exact ⟨ret_int HF.out.symm, hb2⟩
      have x1 : ((i : Int) == 0) = false := by rw [beq_eq_false_iff_ne]; omega
      have x2 : ¬ ((i : Int) = 0) := by omega
      have hf : ckE t n = 1 := by rw [not_of_iff HT.out (fun hh => absurd hh (but0 k1 k2 k3))]; rfl
      have HF := hide hf
      clear hf
      go_enter Tryz.func116, Tryz.ntmps116
      go_wp2_with fail
      refine cm.mono ?_
      rintro e w2 ⟨rfl, hb⟩
      have hb2 := hbz.trans (hb.mono hbz.size)
      have v2 := v0.later hb
      clear cm hw1 v0 hb j0 j1 j2 j3 j4 j5 j6 j7 j8 j9
      obtain ⟨j0, j1, j2, j3, j4, j5, j6, j7, j8, j9⟩ := v2.cells
      dsimp only at j0 j1 j2 j3 j4 j5 j6 j7 j8 j9
      go_wp2
      go_ret
      exact ⟨ret_int HF.out.symm, hb2⟩
    have z1 : decide ((num : Int) ≤ 4611686018427387904) = true := decide_eq_true (by omega)
    by_cases p2 : 1 ≤ vn
    case neg =>
      have z2 : decide ((1 : Int) ≤ (vn : Int)) = false := decide_eq_false (by omega)
      by_cases qi : i = 0
      case pos =>
        subst qi
        (try simp only [Int.natCast_zero] at *)
        have hf : ckE t n = 1 := by rw [not_of_iff HT.out (fun hh => absurd hh (but0 k1 k2 k3))]; rfl
        have HF := hide hf
        clear hf
        go_enter Tryz.func116, Tryz.ntmps116
        go_wp2_with fail
        refine cm.mono ?_
        rintro e w2 ⟨rfl, hb⟩
        have hb2 := hbz.trans (hb.mono hbz.size)
        have v2 := v0.later hb
        clear cm hw1 v0 hb j0 j1 j2 j3 j4 j5 j6 j7 j8 j9
        obtain ⟨j0, j1, j2, j3, j4, j5, j6, j7, j8, j9⟩ := v2.cells
        dsimp only at j0 j1 j2 j3 j4 j5 j6 j7 j8 j9
        go_wp2
        go_ret
        exact ⟨ret_int HF.out.symm, hb2⟩
      have x1 : ((i : Int) == 0) = false := by rw [beq_eq_false_iff_ne]; omega
      have x2 : ¬ ((i : Int) = 0) := by omega
      have hf : ckE t n = 1 := by rw [not_of_iff HT.out (fun hh => absurd hh (but0 k1 k2 k3))]; rfl
      have HF := hide hf
      clear hf
      go_enter Tryz.func116, Tryz.ntmps116
      go_wp2_with fail
      refine cm.mono ?_
      rintro e w2 ⟨rfl, hb⟩
      have hb2 := hbz.trans (hb.mono hbz.size)
      have v2 := v0.later hb
      clear cm hw1 v0 hb j0 j1 j2 j3 j4 j5 j6 j7 j8 j9
      obtain ⟨j0, j1, j2, j3, j4, j5, j6, j7, j8, j9⟩ := v2.cells
      dsimp only at j0 j1 j2 j3 j4 j5 j6 j7 j8 j9
      go_wp2
      go_ret
      exact ⟨ret_int HF.out.symm, hb2⟩
    have z2 : decide ((1 : Int) ≤ (vn : Int)) = true := decide_eq_true (by omega)
    by_cases p3 : vn ≤ 4611686018427387904
    case neg =>
      have z3 : decide ((vn : Int) ≤ 4611686018427387904) = false := decide_eq_false (by omega)
      by_cases qi : i = 0
      case pos =>
        subst qi
        (try simp only [Int.natCast_zero] at *)
        have hf : ckE t n = 1 := by rw [not_of_iff HT.out (fun hh => absurd hh (but0 k1 k2 k3))]; rfl
        have HF := hide hf
        clear hf
        go_enter Tryz.func116, Tryz.ntmps116
        go_wp2_with fail
        refine cm.mono ?_
        rintro e w2 ⟨rfl, hb⟩
        have hb2 := hbz.trans (hb.mono hbz.size)
        have v2 := v0.later hb
        clear cm hw1 v0 hb j0 j1 j2 j3 j4 j5 j6 j7 j8 j9
        obtain ⟨j0, j1, j2, j3, j4, j5, j6, j7, j8, j9⟩ := v2.cells
        dsimp only at j0 j1 j2 j3 j4 j5 j6 j7 j8 j9
        go_wp2
        go_ret
        exact ⟨ret_int HF.out.symm, hb2⟩
      have x1 : ((i : Int) == 0) = false := by rw [beq_eq_false_iff_ne]; omega
      have x2 : ¬ ((i : Int) = 0) := by omega
      have hf : ckE t n = 1 := by rw [not_of_iff HT.out (fun hh => absurd hh (but0 k1 k2 k3))]; rfl
      have HF := hide hf
      clear hf
      go_enter Tryz.func116, Tryz.ntmps116
      go_wp2_with fail
      refine cm.mono ?_
      rintro e w2 ⟨rfl, hb⟩
      have hb2 := hbz.trans (hb.mono hbz.size)
      have v2 := v0.later hb
      clear cm hw1 v0 hb j0 j1 j2 j3 j4 j5 j6 j7 j8 j9
      obtain ⟨j0, j1, j2, j3, j4, j5, j6, j7, j8, j9⟩ := v2.cells
      dsimp only at j0 j1 j2 j3 j4 j5 j6 j7 j8 j9
      go_wp2
      go_ret
      exact ⟨ret_int HF.out.symm, hb2⟩
    have z3 : decide ((vn : Int) ≤ 4611686018427387904) = true := decide_eq_true (by omega)
    by_cases qi : i = 0
    case pos =>
      subst qi
      (try simp only [Int.natCast_zero] at *)
      have hf : ckE t n = 1 := by rw [not_of_iff HT.out (fun hh => absurd hh (but0 k1 k2 k3))]; rfl
      have HF := hide hf
      clear hf
      go_enter Tryz.func116, Tryz.ntmps116
      go_wp2_with fail
      refine cm.mono ?_
      rintro e w2 ⟨rfl, hb⟩
      have hb2 := hbz.trans (hb.mono hbz.size)
      have v2 := v0.later hb
      clear cm hw1 v0 hb j0 j1 j2 j3 j4 j5 j6 j7 j8 j9
      obtain ⟨j0, j1, j2, j3, j4, j5, j6, j7, j8, j9⟩ := v2.cells
      dsimp only at j0 j1 j2 j3 j4 j5 j6 j7 j8 j9
      go_wp2
      go_ret
      exact ⟨ret_int HF.out.symm, hb2⟩
    have x1 : ((i : Int) == 0) = false := by rw [beq_eq_false_iff_ne]; omega
    have x2 : ¬ ((i : Int) = 0) := by omega
    have hf : ckE t n = 1 := by rw [not_of_iff HT.out (fun hh => absurd hh (but0 k1 k2 k3))]; rfl
    have HF := hide hf
    clear hf
    go_enter Tryz.func116, Tryz.ntmps116
    go_wp2_with fail
    refine cm.mono ?_
    rintro e w2 ⟨rfl, hb⟩
    have hb2 := hbz.trans (hb.mono hbz.size)
    have v2 := v0.later hb
    clear cm hw1 v0 hb j0 j1 j2 j3 j4 j5 j6 j7 j8 j9
    obtain ⟨j0, j1, j2, j3, j4, j5, j6, j7, j8, j9⟩ := v2.cells
    dsimp only at j0 j1 j2 j3 j4 j5 j6 j7 j8 j9
    go_wp2
    go_ret
    exact ⟨ret_int HF.out.symm, hb2⟩
end Go.Proofs.YtjmkecaljkcoiaaGreatDoor
