/-
  The law choraguslaw08.ViewSame answers true, and does not panic, for every argument that its row allows. Conditions: none but the row's own.
-/
import Derived.Test.YthloamhodapmpaaRows
import Derived.WalkKit
import Derived.ProofKit
import Derived.OpenShut
import Derived.ShutString
import Derived.ChangeOld
import Derived.Below
import Derived.Test.YthloamhodapmpaaOpen
import Derived.Test.YthloamhodapmpaaViewE
namespace Go.Proofs.Ythloamhodapmpaa.viewSame
open Go.ChangeShapes Go.WideShapes Go.ChangeAt Go.RowKit
open Go.ChangeMaps (open_string shut_string)
set_option linter.unusedVariables false
set_option linter.unusedSimpArgs false

set_option maxRecDepth 100000 in
theorem walk (x y : Vw) (w : World) (h : VwIn w w.heap.size x) (h' : VwIn w w.heap.size y) :
    Calls Try.prog 7 #[.agg #[.int .u64 (x.id : Int), .slice x.A x.m x.c, .slice x.B x.d x.e, .slice x.C x.f x.g], .agg #[.int .u64 (y.id : Int), .slice y.A y.m y.c, .slice y.B y.d y.e, .slice y.C y.f y.g]] w fun e w' => e = .returned (.bool true) ∧ Below w.heap.size w w' := by
  have v0 := (VAt.mk_ w x).alloc (.cells #[.int .u64 (y.id : Int), .slice y.A y.m y.c, .slice y.B y.d y.e, .slice y.C y.f y.g] 26)
  have v1 := VAt.mk_ (w.alloc (.cells #[.int .u64 (x.id : Int), .slice x.A x.m x.c, .slice x.B x.d x.e, .slice x.C x.f x.g] 26)) y
  simp only [World.size_alloc] at v1
  have hbz : Below w.heap.size w ((w.alloc (.cells #[.int .u64 (x.id : Int), .slice x.A x.m x.c, .slice x.B x.d x.e, .slice x.C x.f x.g] 26)).alloc (.cells #[.int .u64 (y.id : Int), .slice y.A y.m y.c, .slice y.B y.d y.e, .slice y.C y.f y.g] 26)) := ((Below.refl _ _).alloc (Nat.le_refl _) _).alloc (by simp) _
  have cg := great8_any x w.heap.size _ (h.below hbz) hbz.size
  unfold Great8P at cg
  obtain ⟨j0, j1, j2, j3⟩ := v1.cells
  go_enter Try.func7, Try.ntmps7
  go_wp2_with fail
  refine cg.mono ?_
  rintro e w1 ⟨g, rfl, hsm, hb1⟩
  have hb2 := hbz.trans (hb1.mono hbz.size)
  have v01 := v0.later hb1
  have v11 := v1.later hb1
  clear hb1 v0 v1 hbz cg j0 j1 j2 j3
  cases g
  · have hsx := hsm rfl
    clear hsm
    have cg2 := great8_any y w.heap.size w1 (h'.below hb2) hb2.size
    unfold Great8P at cg2
    obtain ⟨j0, j1, j2, j3⟩ := v11.cells
    go_wp2_with fail
    refine cg2.mono ?_
    rintro e w2 ⟨g, rfl, hsm, hb1⟩
    have hb3 := hb2.trans (hb1.mono hb2.size)
    have v02 := v01.later hb1
    have v12 := v11.later hb1
    clear hb1 v01 v11 cg2 j0 j1 j2 j3 hb2
    cases g
    · obtain ⟨k0, k1, k2, k3⟩ := v02.cells
      obtain ⟨j0, j1, j2, j3⟩ := v12.cells
      have g0 := Later.cell k0
      have g1 := Later.cell k1
      have g2 := Later.cell k2
      have g3 := Later.cell k3
      have f0 := Later.cell j0
      have f1 := Later.cell j1
      have f2 := Later.cell j2
      have f3 := Later.cell j3
      obtain ⟨t, ht⟩ := bool_of (x.v = y.v)
      have n1 := fun z : Later w2 => calm_of (vsame_any x y w.heap.size w.heap.size z.w t (h.below (hb3.trans (z.below.mono hb3.size))) (h'.below (hb3.trans (z.below.mono hb3.size))) (Nat.le_trans hb3.size z.below.size) (Nat.le_trans hb3.size z.below.size) ht)
      have n2 := fun z : Later w2 => calm_of (rvsame_any x y w.heap.size w.heap.size z.w t (h.below (hb3.trans (z.below.mono hb3.size))) (h'.below (hb3.trans (z.below.mono hb3.size))) (Nat.le_trans hb3.size z.below.size) (Nat.le_trans hb3.size z.below.size) ht)
      have n3 := fun z : Later w2 => calm_of (vsame_any x x w.heap.size w.heap.size z.w true (h.below (hb3.trans (z.below.mono hb3.size))) (h.below (hb3.trans (z.below.mono hb3.size))) (Nat.le_trans hb3.size z.below.size) (Nat.le_trans hb3.size z.below.size) ⟨fun _ => rfl, fun _ => rfl⟩)
      have n4 := fun z : Later w2 => calm_of (awake8_any z.w)
      have htt : (t == t) = true := by cases t <;> rfl
      clear ht k0 k1 k2 k3 j0 j1 j2 j3 v02 v12 hsm hsx h h'
      go_wp2_with fail
      refine wp_region_calm (by kernel_rfl) (by kernel_rfl) ?_
      repeat (go_big_quiet_step (first | (go_at_call 24; with_reducible exact n1 _) | (go_at_call 24; with_reducible exact n3 _) | (go_at_call 25; with_reducible exact n2 _) | (go_at_call 10; with_reducible exact n4 _)))
      refine wpQuiet_nil ?_
      rintro _ ⟨x9, rfl⟩
      have hb9 := x9.below
      generalize x9.w = w9 at hb9 ⊢
      have hb10 := hb3.trans (hb9.mono hb3.size)
      go_wp2
      go_ret
      exact ⟨rfl, hb10⟩
    · clear hsm
      go_wp2_with fail
      refine (awake8_any _).mono ?_
      rintro e w3 ⟨rfl, hb1⟩
      have hb4 := hb3.trans (hb1.mono hb3.size)
      go_wp2
      go_ret
      exact ⟨rfl, hb4⟩
  · clear hsm
    go_wp2_with fail
    refine (awake8_any _).mono ?_
    rintro e w3 ⟨rfl, hb1⟩
    have hb4 := hb2.trans (hb1.mono hb2.size)
    go_wp2
    go_ret
    exact ⟨rfl, hb4⟩

/-! ### THE ROW's STEP -/
set_option maxRecDepth 100000 in
theorem lifted (os : Os) (started : os.Started) (H : Type) (enc : TypeId × Value → H) :
    ReturnsInHanded {} Try.checked os 7 .any (Rows.viewSameSpec.pre6 enc Try.prog Try.f7 Rows.viewSameRow.domain false) (Rows.viewSameSpec.post enc Try.prog Try.f7 false true false false) := by
  refine returnsInHanded_of_change (C := Try.checked) own started (by kernel_rfl) Try.func7
    (ChangeSpec.witness6 (enc := enc) (C := Try.checked) false ⟨#[], #[.agg #[.int .u64 0, .slice none 0 0, .slice none 0 0, .slice none 0 0], .agg #[.int .u64 0, .slice none 0 0, .slice none 0 0, .slice none 0 0]], []⟩ 8 (by kernel_rfl) (by kernel_rfl) (by kernel_rfl) (by kernel_rfl)) ?_
  intro W base args ds gs before hval0 hW hcnd _
  have hval : ∀ (j : Nat) t v, Try.f7.params[j]? = some t → args[j]? = some v → Value.okWide Try.prog W .any base t v := hval0
  have hW' := hW
  obtain ⟨p, q, hA0, hV, rfl, hfz, hnd⟩ := hW
  have hA : DataW.TrodAll enc Try.prog W 0 (fun _ => true) true Try.f7.params.toList args.toList ds p := hA0
  rw [Try.params7] at hA hval
  obtain ⟨v0, vs0, d0, ds0, p0, q0, hargs, rfl, rfl, h0, r0⟩ := trodAll_cons hA
  obtain ⟨v1, vs1, d1, ds1, p1, q1, rfl, rfl, rfl, h1, r1⟩ := trodAll_cons r0
  obtain ⟨rfl, rfl, rfl⟩ := trodAll_nil r1
  obtain rfl : args = #[v0, v1] := by cases args; simp_all
  obtain ⟨rfl, rfl⟩ := trodVars_none hV
  have k0 := h0
  have lt0 : ∀ x ∈ p0, x.block < W.heap.size := by obtain ⟨m, hm⟩ := k0; exact DataW.trod_lt m _ _ _ hm
  obtain ⟨x0, rfl, hx0⟩ := open_view (hval 0 26 v0 rfl rfl) h0
  have k1 := h1
  have lt1 : ∀ x ∈ p1, x.block < W.heap.size := by obtain ⟨m, hm⟩ := k1; exact DataW.trod_lt m _ _ _ hm
  obtain ⟨x1, rfl, hx1⟩ := open_view (hval 1 26 v1 rfl rfl) h1
  clear hA0 hval0
  refine (walk x0 x1 W hx0 hx1).mono fun e W' ⟨he, bel⟩ => ?_
  subst he
  exact ⟨_, rfl, _, _, _, [], _, [], hW', trodAll_mk1 (shut_bool Try.underlying4 _), (trodAll_cons_mk (Below.trod laidOut (by kernel_rfl) (of_decide_eq_true (by kernel_rfl)) k0 bel lt0) (trodAll_cons_mk (Below.trod laidOut (by kernel_rfl) (of_decide_eq_true (by kernel_rfl)) k1 bel lt1) trodAll_mk0)), rfl, bel.frame _, fun h => by cases h⟩

theorem over : Rows.viewSameRow.holds Try.pinned (OpenSpec.ofChange Rows.viewSameSpec) :=
  OpenClaim.holds_of_wide 7 Try.f7 rfl rfl rfl rfl rfl rfl rfl ⟨rfl, rfl, rfl, rfl, rfl⟩ rfl rfl rfl rfl rfl (by kernel_rfl) Try.func7 (by kernel_rfl)
    (of_decide_eq_true (by kernel_rfl)) (by unfold Func.isWrapper; first | (rw [if_pos (by decide +kernel)]; kernel_rfl) | (rw [if_neg (by decide +kernel)]; exact ⟨rfl, rfl⟩))
    (fun os started H enc _ => lifted os started H enc)

theorem proved : Rows.ViewSameSaid := over
#print axioms proved
end Go.Proofs.Ythloamhodapmpaa.viewSame
