import Derived.Test.YtjmkecaljkcoiaaGreatDoorQCmd1
import Derived.Test.YtjmkecaljkcoiaaGreatDoorQViewH
namespace Go.Proofs.YtjmkecaljkcoiaaGreatDoor
open Go.RowKit Go.Maps
set_option linter.unusedVariables false
set_option linter.unusedSimpArgs false
theorem but1 {c : Cm} (h : c.kind = 1) : ButLen c ↔ c = zC 1 noV := by
  unfold ButLen
  rw [h]
  simp
theorem but2 {c : Cm} (h : c.kind = 2) : ButLen c ↔ mayP c.p = true ∧ cntsP c.num ∧ cntsP c.vn ∧ c.v = noV := by
  unfold ButLen
  rw [h]
  simp
theorem but3 {c : Cm} (h : c.kind = 3) : ButLen c ↔ MayV c.v ∧ c = zC 3 c.v := by
  unfold ButLen
  rw [h]
  simp
theorem but0 {c : Cm} (h1 : c.kind ≠ 1) (h2 : c.kind ≠ 2) (h3 : c.kind ≠ 3) : ¬ ButLen c := fun h => by
  rcases h.kind with h | h | h <;> contradiction
abbrev zX (k : Int) (x : Vw) : Cx := ⟨k, default, 0, 0, none, 0, 0, [], x⟩
theorem zX_in {w : World} {B : Nat} {k : Int} {x : Vw} (h0 : -9223372036854775808 ≤ k) (h1 : k ≤ 9223372036854775807) (h : VwIn w B x) : CxIn w B (zX k x) :=
  ⟨h0, h1, Nat.pos_of_ne_zero (by decide), Nat.pos_of_ne_zero (by decide), Bs.none_, Nat.le_refl _, Nat.zero_le _, h⟩
theorem zeroX_in (w : World) : VwIn w w.heap.size zeroX := (zeroX_own w 0).in_ (by decide)
theorem counts_any (n : Nat) (w : World) (t : Bool) (ht : t = true ↔ cntsP n) :
    Calls Tryz.prog 215 #[.int .u64 n] w fun e w' => e = .returned (.bool t) ∧ w = w' := by
  unfold cntsP at ht
  by_cases h0 : 1 ≤ n
  · have z0 : decide ((1 : Int) ≤ (n : Int)) = true := decide_eq_true (by omega)
    by_cases h1 : n ≤ 4611686018427387904
    · have z1 : decide ((n : Int) ≤ 4611686018427387904) = true := decide_eq_true (by omega)
      have hf : t = true := ht.2 ⟨h0, h1⟩
      have HF := hide hf
      clear ht hf h0 h1
      go_enter Tryz.func215, Tryz.ntmps215
      go_wp2
      go_ret
      exact ⟨ret_bool HF.out.symm, rfl⟩
    · have z1 : decide ((n : Int) ≤ 4611686018427387904) = false := decide_eq_false (by omega)
      have hf : t = false := not_of_iff ht (fun e => h1 e.2)
      have HF := hide hf
      clear ht hf h0 h1
      go_enter Tryz.func215, Tryz.ntmps215
      go_wp2
      go_ret
      exact ⟨ret_bool HF.out.symm, rfl⟩
  · have z0 : decide ((1 : Int) ≤ (n : Int)) = false := decide_eq_false (by omega)
    have hf : t = false := not_of_iff ht (fun e => h0 e.1)
    have HF := hide hf
    clear ht hf h0
    go_enter Tryz.func215, Tryz.ntmps215
    go_wp2
    go_ret
    exact ⟨ret_bool HF.out.symm, rfl⟩
set_option maxRecDepth 100000 in
set_option maxHeartbeats 1000000 in
theorem mbf_any (y : Cx) (B : Nat) (w : World) (t : Bool) (h : CxIn w B y) (hs : VSmall y.x) (hB : B ≤ w.heap.size) (ht : t = true ↔ ButLen y.m) :
    Calls Tryz.prog 178 #[.agg #[.int .i64 y.kind, .int .u16 y.p.i, .int .u32 y.p.k, .int .u64 y.num, .int .u64 y.vn, .slice y.A y.n y.c, .int .u64 y.x.id, .slice y.x.A y.x.m y.x.c, .slice y.x.B y.x.d y.x.e, .slice y.x.C y.x.f y.x.g]] w fun e w' => e = .returned (.bool t) ∧ Below w.heap.size w w' := by
  have hbz : Below w.heap.size w (w.alloc (.cells #[.int .i64 y.kind, .int .u16 y.p.i, .int .u32 y.p.k, .int .u64 y.num, .int .u64 y.vn, .slice y.A y.n y.c, .int .u64 y.x.id, .slice y.x.A y.x.m y.x.c, .slice y.x.B y.x.d y.x.e, .slice y.x.C y.x.f y.x.g] 48)) := (Below.refl _ _).alloc (Nat.le_refl _) _
  have v0 := CAt.mk_ w y
  have h1 := h.below (hbz.mono hB)
  have hB1 := Nat.le_trans hB hbz.size
  obtain ⟨kind, p, num, vn, A, n, c, l, xv⟩ := y
  obtain ⟨j0, j1, j2, j3, j4, j5, j6, j7, j8, j9⟩ := v0.cells
  dsimp only at *
  by_cases k1 : kind = 1
  · subst k1
    rw [but1 rfl] at ht
    have cs : Calls Tryz.prog 175 #[.agg #[.int .i64 1, .int .u16 p.i, .int .u32 p.k, .int .u64 num, .int .u64 vn, .slice A n c, .int .u64 xv.id, .slice xv.A xv.m xv.c, .slice xv.B xv.d xv.e, .slice xv.C xv.f xv.g], .agg #[.int .i64 1, .int .u16 0, .int .u32 0, .int .u64 0, .int .u64 0, .slice none 0 0, .int .u64 0, .slice none 0 0, .slice none 0 0, .slice none 0 0]] (w.alloc (.cells #[.int .i64 1, .int .u16 p.i, .int .u32 p.k, .int .u64 num, .int .u64 vn, .slice A n c, .int .u64 xv.id, .slice xv.A xv.m xv.c, .slice xv.B xv.d xv.e, .slice xv.C xv.f xv.g] 48)) (fun e w' => e = .returned (.bool t) ∧ Below (w.alloc (.cells #[.int .i64 1, .int .u16 p.i, .int .u32 p.k, .int .u64 num, .int .u64 vn, .slice A n c, .int .u64 xv.id, .slice xv.A xv.m xv.c, .slice xv.B xv.d xv.e, .slice xv.C xv.f xv.g] 48)).heap.size (w.alloc (.cells #[.int .i64 1, .int .u16 p.i, .int .u32 p.k, .int .u64 num, .int .u64 vn, .slice A n c, .int .u64 xv.id, .slice xv.A xv.m xv.c, .slice xv.B xv.d xv.e, .slice xv.C xv.f xv.g] 48)) w') :=
      csame_any ⟨1, p, num, vn, A, n, c, l, xv⟩ (zX 1 zeroX) B _ _ t h1 (zX_in (by decide) (by decide) (zeroX_in _)) hB1 (Nat.le_refl _) ht
    clear ht h h1 v0
    generalize hw1 : w.alloc (.cells #[.int .i64 1, .int .u16 p.i, .int .u32 p.k, .int .u64 num, .int .u64 vn, .slice A n c, .int .u64 xv.id, .slice xv.A xv.m xv.c, .slice xv.B xv.d xv.e, .slice xv.C xv.f xv.g] 48) = w1 at *
    go_enter Tryz.func178, Tryz.ntmps178
    go_wp2_with fail
    refine cs.mono ?_
    rintro e w2 ⟨rfl, hb⟩
    have hb2 := hbz.trans (hb.mono hbz.size)
    go_wp2
    go_ret
    exact ⟨rfl, hb2⟩
  have q1 : (kind == 1) = false := by rw [beq_eq_false_iff_ne]; exact k1
  by_cases k2 : kind = 2
  · subst k2
    rw [but2 rfl] at ht
    simp only [Cx.m] at ht
    have cm := may_any p (w.alloc (.cells #[.int .i64 2, .int .u16 p.i, .int .u32 p.k, .int .u64 num, .int .u64 vn, .slice A n c, .int .u64 xv.id, .slice xv.A xv.m xv.c, .slice xv.B xv.d xv.e, .slice xv.C xv.f xv.g] 48))
    obtain ⟨t1, ht1⟩ := bool_of (cntsP num)
    obtain ⟨t2, ht2⟩ := bool_of (cntsP vn)
    obtain ⟨t3, ht3⟩ := bool_of (xv.v = noV)
    have c1 := fun W => counts_any num W t1 ht1
    have c2 := fun W => counts_any vn W t2 ht2
    have cv : ∀ W, Below w.heap.size w W → Calls Tryz.prog 176 #[.agg #[.int .u64 xv.id, .slice xv.A xv.m xv.c, .slice xv.B xv.d xv.e, .slice xv.C xv.f xv.g], .agg #[.int .u64 0, .slice none 0 0, .slice none 0 0, .slice none 0 0]] W (fun e w' => e = .returned (.bool t3) ∧ Below W.heap.size W w') := fun W hb =>
      vsame_any xv zeroX B _ W t3 (h.vw.below (hb.mono hB)) (zeroX_in W) (Nat.le_trans hB hb.size) (Nat.le_refl _) ht3
    obtain ⟨t0, ht0⟩ : ∃ b, b = mayP p := ⟨_, rfl⟩
    rw [← ht0] at cm ht
    have hf : t = (t0 && (t1 && (t2 && t3))) := by
      rw [Bool.eq_iff_iff, ht]
      simp only [Bool.and_eq_true, ht1, ht2, ht3]
    have HF := hide hf
    clear ht hf ht0 ht1 ht2 ht3 h h1
    generalize hw1 : w.alloc (.cells #[.int .i64 2, .int .u16 p.i, .int .u32 p.k, .int .u64 num, .int .u64 vn, .slice A n c, .int .u64 xv.id, .slice xv.A xv.m xv.c, .slice xv.B xv.d xv.e, .slice xv.C xv.f xv.g] 48) = w1 at *
    go_enter Tryz.func178, Tryz.ntmps178
    go_wp2_with fail
    refine cm.mono ?_
    rintro e w2 ⟨rfl, hb⟩
    have hb2 := hbz.trans (hb.mono hbz.size)
    have v2 := v0.later hb
    clear cm hw1 v0 j0 j1 j2 j3 j4 j5 j6 j7 j8 j9
    obtain ⟨j0, j1, j2, j3, j4, j5, j6, j7, j8, j9⟩ := v2.cells
    dsimp only at j0 j1 j2 j3 j4 j5 j6 j7 j8 j9
    have cv := cv w2 hb2
    cases t0
    · go_wp2
      go_ret
      exact ⟨ret_bool HF.out.symm, hb2⟩
    go_wp2_with fail
    refine (c1 w2).mono ?_
    rintro e w3 ⟨rfl, rfl⟩
    cases t1
    · go_wp2
      go_ret
      exact ⟨ret_bool HF.out.symm, hb2⟩
    go_wp2_with fail
    refine (c2 w2).mono ?_
    rintro e w3 ⟨rfl, rfl⟩
    cases t2
    · go_wp2
      go_ret
      exact ⟨ret_bool HF.out.symm, hb2⟩
    go_wp2_with fail
    refine cv.mono ?_
    rintro e w3 ⟨rfl, hb⟩
    have hb3 := hb2.trans (hb.mono hb2.size)
    go_wp2
    go_ret
    exact ⟨ret_bool HF.out.symm, hb3⟩
  have q2 : (kind == 2) = false := by rw [beq_eq_false_iff_ne]; exact k2
  by_cases k3 : kind = 3
  · subst k3
    rw [but3 rfl] at ht
    simp only [Cx.m] at ht
    obtain ⟨t1, ht1⟩ := bool_of (MayV xv.v)
    obtain ⟨t2, ht2⟩ := bool_of ((Cx.m ⟨3, p, num, vn, A, n, c, l, xv⟩) = zC 3 xv.v)
    have cv := check_any xv B (w.alloc (.cells #[.int .i64 3, .int .u16 p.i, .int .u32 p.k, .int .u64 num, .int .u64 vn, .slice A n c, .int .u64 xv.id, .slice xv.A xv.m xv.c, .slice xv.B xv.d xv.e, .slice xv.C xv.f xv.g] 48)) t1 h1.vw hs hB1 ht1
    have cs : ∀ W, Below w.heap.size w W → Calls Tryz.prog 175 #[.agg #[.int .i64 3, .int .u16 p.i, .int .u32 p.k, .int .u64 num, .int .u64 vn, .slice A n c, .int .u64 xv.id, .slice xv.A xv.m xv.c, .slice xv.B xv.d xv.e, .slice xv.C xv.f xv.g], .agg #[.int .i64 3, .int .u16 0, .int .u32 0, .int .u64 0, .int .u64 0, .slice none 0 0, .int .u64 xv.id, .slice xv.A xv.m xv.c, .slice xv.B xv.d xv.e, .slice xv.C xv.f xv.g]] W (fun e w' => e = .returned (.bool t2) ∧ Below W.heap.size W w') := fun W hb =>
      csame_any ⟨3, p, num, vn, A, n, c, l, xv⟩ (zX 3 xv) B B W t2 (h.below (hb.mono hB)) (zX_in (by decide) (by decide) (h.vw.below (hb.mono hB))) (Nat.le_trans hB hb.size) (Nat.le_trans hB hb.size) ht2
    have hf : t = (t1 && t2) := by
      rw [Bool.eq_iff_iff, ht]
      simp only [Bool.and_eq_true, ht1, ht2, Cx.m]
    have HF := hide hf
    clear ht hf ht1 ht2 h h1
    generalize hw1 : w.alloc (.cells #[.int .i64 3, .int .u16 p.i, .int .u32 p.k, .int .u64 num, .int .u64 vn, .slice A n c, .int .u64 xv.id, .slice xv.A xv.m xv.c, .slice xv.B xv.d xv.e, .slice xv.C xv.f xv.g] 48) = w1 at *
    go_enter Tryz.func178, Tryz.ntmps178
    cases t1
    · rw [show ckI false = 1 from rfl] at cv
      go_wp2_with fail
      refine cv.mono ?_
      rintro e w2 ⟨rfl, hb⟩
      have hb2 := hbz.trans (hb.mono hbz.size)
      clear cs hw1
      go_wp2
      go_ret
      exact ⟨ret_bool HF.out.symm, hb2⟩
    rw [show ckI true = 0 from rfl] at cv
    go_wp2_with fail
    refine cv.mono ?_
    rintro e w2 ⟨rfl, hb⟩
    have hb2 := hbz.trans (hb.mono hbz.size)
    have v2 := v0.later hb
    clear cv hw1 v0 j0 j1 j2 j3 j4 j5 j6 j7 j8 j9
    obtain ⟨j0, j1, j2, j3, j4, j5, j6, j7, j8, j9⟩ := v2.cells
    dsimp only at j0 j1 j2 j3 j4 j5 j6 j7 j8 j9
    have cs := cs w2 hb2
    go_wp2_with fail
    refine cs.mono ?_
    rintro e w3 ⟨rfl, hb⟩
    have hb3 := hb2.trans (hb.mono hb2.size)
    go_wp2
    go_ret
    exact ⟨ret_bool HF.out.symm, hb3⟩
  have q3 : (kind == 3) = false := by rw [beq_eq_false_iff_ne]; exact k3
  have hf : t = false := not_of_iff ht (but0 k1 k2 k3)
  have HF := hide hf
  clear ht hf
  go_enter Tryz.func178, Tryz.ntmps178
  go_wp2
  go_ret
  exact ⟨ret_bool HF.out.symm, hbz⟩
end Go.Proofs.YtjmkecaljkcoiaaGreatDoor
namespace Go.Proofs.YtjmkecaljkcoiaaGreatDoor
open Go.RowKit Go.Maps
set_option linter.unusedVariables false
set_option linter.unusedSimpArgs false
theorem ckE_no (n : Nat) : ckE false n = 1 := rfl
theorem ckE_long {n : Nat} (h : 200 < n) : ckE true n = 14 := by simp [ckE, h]
theorem ckE_ok {n : Nat} (h : ¬ 200 < n) : ckE true n = 0 := by simp [ckE, h]
set_option maxRecDepth 100000 in
theorem check9_any (y : Cx) (B : Nat) (w : World) (t : Bool) (h : CxIn w B y) (hs : VSmall y.x) (hB : B ≤ w.heap.size) (ht : t = true ↔ ButLen y.m) :
    Calls Tryz.prog 121 #[.agg #[.int .i64 y.kind, .int .u16 y.p.i, .int .u32 y.p.k, .int .u64 y.num, .int .u64 y.vn, .slice y.A y.n y.c, .int .u64 y.x.id, .slice y.x.A y.x.m y.x.c, .slice y.x.B y.x.d y.x.e, .slice y.x.C y.x.f y.x.g]] w fun e w' => e = .returned (.int .i64 (ckE t y.n)) ∧ Below w.heap.size w w' := by
  have hbz : Below w.heap.size w (w.alloc (.cells #[.int .i64 y.kind, .int .u16 y.p.i, .int .u32 y.p.k, .int .u64 y.num, .int .u64 y.vn, .slice y.A y.n y.c, .int .u64 y.x.id, .slice y.x.A y.x.m y.x.c, .slice y.x.B y.x.d y.x.e, .slice y.x.C y.x.f y.x.g] 48)) := (Below.refl _ _).alloc (Nat.le_refl _) _
  have v0 := CAt.mk_ w y
  have cm := mbf_any y B (w.alloc (.cells #[.int .i64 y.kind, .int .u16 y.p.i, .int .u32 y.p.k, .int .u64 y.num, .int .u64 y.vn, .slice y.A y.n y.c, .int .u64 y.x.id, .slice y.x.A y.x.m y.x.c, .slice y.x.B y.x.d y.x.e, .slice y.x.C y.x.f y.x.g] 48)) t (h.below (hbz.mono hB)) hs (Nat.le_trans hB hbz.size) ht
  clear h ht
  obtain ⟨kind, p, num, vn, A, n, c, l, xv⟩ := y
  obtain ⟨j0, j1, j2, j3, j4, j5, j6, j7, j8, j9⟩ := v0.cells
  dsimp only at *
  generalize hw1 : w.alloc (.cells #[.int .i64 kind, .int .u16 p.i, .int .u32 p.k, .int .u64 num, .int .u64 vn, .slice A n c, .int .u64 xv.id, .slice xv.A xv.m xv.c, .slice xv.B xv.d xv.e, .slice xv.C xv.f xv.g] 48) = w1 at *
  go_enter Tryz.func121, Tryz.ntmps121
  cases t
  · rw [ckE_no]
    go_wp2_with fail
    refine cm.mono ?_
    rintro e w2 ⟨rfl, hb⟩
    have hb2 := hbz.trans (hb.mono hbz.size)
    clear hw1 cm
    go_wp2
    go_ret
    exact ⟨rfl, hb2⟩
  · go_wp2_with fail
    refine cm.mono ?_
    rintro e w2 ⟨rfl, hb⟩
    have hb2 := hbz.trans (hb.mono hbz.size)
    have v2 := v0.later hb
    clear hw1 cm v0 j0 j1 j2 j3 j4 j5 j6 j7 j8 j9
    obtain ⟨j0, j1, j2, j3, j4, j5, j6, j7, j8, j9⟩ := v2.cells
    dsimp only at j0 j1 j2 j3 j4 j5 j6 j7 j8 j9
    by_cases hn : 200 < n
    · have HN := hide (ckE_long hn)
      have z1 : decide ((200 : Int) < (n : Int)) = true := decide_eq_true (by omega)
      clear hn
      go_wp2
      go_ret
      exact ⟨ret_int HN.out.symm, hb2⟩
    · have HN := hide (ckE_ok hn)
      have z1 : decide ((200 : Int) < (n : Int)) = false := decide_eq_false (by omega)
      clear hn
      go_wp2
      go_ret
      exact ⟨ret_int HN.out.symm, hb2⟩
def Great9P (w : World) (y : Cx) (e : Ending) (w' : World) : Prop := ∃ b : Bool, e = .returned (.bool b) ∧ (b = false → CSmall y) ∧ Below w.heap.size w w'
set_option maxRecDepth 100000 in
theorem great9_any (y : Cx) (B : Nat) (w : World) (h : CxIn w B y) (hB : B ≤ w.heap.size) :
    Calls Tryz.prog 64 #[.agg #[.int .i64 y.kind, .int .u16 y.p.i, .int .u32 y.p.k, .int .u64 y.num, .int .u64 y.vn, .slice y.A y.n y.c, .int .u64 y.x.id, .slice y.x.A y.x.m y.x.c, .slice y.x.B y.x.d y.x.e, .slice y.x.C y.x.f y.x.g]] w (Great9P w y) := by
  have hbz : Below w.heap.size w (w.alloc (.cells #[.int .i64 y.kind, .int .u16 y.p.i, .int .u32 y.p.k, .int .u64 y.num, .int .u64 y.vn, .slice y.A y.n y.c, .int .u64 y.x.id, .slice y.x.A y.x.m y.x.c, .slice y.x.B y.x.d y.x.e, .slice y.x.C y.x.f y.x.g] 48)) := (Below.refl _ _).alloc (Nat.le_refl _) _
  have v0 := CAt.mk_ w y
  have cg := great8_any y.x B (w.alloc (.cells #[.int .i64 y.kind, .int .u16 y.p.i, .int .u32 y.p.k, .int .u64 y.num, .int .u64 y.vn, .slice y.A y.n y.c, .int .u64 y.x.id, .slice y.x.A y.x.m y.x.c, .slice y.x.B y.x.d y.x.e, .slice y.x.C y.x.f y.x.g] 48)) (h.vw.below (hbz.mono hB)) (Nat.le_trans hB hbz.size)
  clear h
  unfold Great8P at cg
  obtain ⟨j0, j1, j2, j3, j4, j5, j6, j7, j8, j9⟩ := v0.cells
  by_cases hn : 400 < y.n
  · have z1 : decide ((400 : Int) < (y.n : Int)) = true := decide_eq_true (by omega)
    clear hn
    go_enter Tryz.func64, Tryz.ntmps64
    go_wp2
    go_ret
    exact ⟨true, rfl, (fun h => by cases h), hbz⟩
  · have z1 : decide ((400 : Int) < (y.n : Int)) = false := decide_eq_false (by omega)
    have hn2 : y.n ≤ 400 := by omega
    have HN := hide hn2
    clear hn hn2
    go_enter Tryz.func64, Tryz.ntmps64
    go_wp2_with fail
    refine cg.mono ?_
    rintro e w2 ⟨gb, rfl, hsm, hb⟩
    have hb2 := hbz.trans (hb.mono hbz.size)
    have HS := hide hsm
    clear hsm
    go_wp2
    go_ret
    exact ⟨gb, rfl, fun h => ⟨HN.out, HS.out h⟩, hb2⟩
end Go.Proofs.YtjmkecaljkcoiaaGreatDoor
