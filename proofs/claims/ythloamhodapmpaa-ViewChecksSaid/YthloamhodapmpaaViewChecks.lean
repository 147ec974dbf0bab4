/-
  The law choraguslaw08.ViewChecks answers true, and does not panic, for every argument that its row allows. Conditions: none but the row's own.
-/
import Derived.Test.YthloamhodapmpaaRows
import Derived.WalkKit
import Derived.ProofKit
import Derived.OpenShut
import Derived.ShutString
import Derived.ChangeOld
import Derived.Below
import Derived.Test.YthloamhodapmpaaOpen
import Derived.Test.YthloamhodapmpaaViewC
namespace Go.Proofs.Ythloamhodapmpaa.viewChecks
open Go.ChangeShapes Go.WideShapes Go.ChangeAt Go.RowKit
open Go.ChangeMaps (open_string shut_string)
set_option linter.unusedVariables false
set_option linter.unusedSimpArgs false

set_option maxRecDepth 100000 in
theorem walk (x : Vw) (w : World) (h : VwIn w w.heap.size x) :
    Calls Try.prog 3 #[.agg #[.int .u64 (x.id : Int), .slice x.A x.m x.c, .slice x.B x.d x.e, .slice x.C x.f x.g]] w fun e w' => e = .returned (.bool true) ∧ Below w.heap.size w w' := by
  have hbz : Below w.heap.size w (w.alloc (.cells #[.int .u64 (x.id : Int), .slice x.A x.m x.c, .slice x.B x.d x.e, .slice x.C x.f x.g] 26)) := (Below.refl _ _).alloc (Nat.le_refl _) _
  have v0 := VAt.mk_ w x
  have cg := great8_any x w.heap.size (w.alloc (.cells #[.int .u64 (x.id : Int), .slice x.A x.m x.c, .slice x.B x.d x.e, .slice x.C x.f x.g] 26)) (h.below hbz) (by simp)
  unfold Great8P at cg
  go_enter Try.func3, Try.ntmps3
  go_wp2_with fail
  refine cg.mono ?_
  rintro e w1 ⟨g, rfl, hsm, hb1⟩
  have hb2 := hbz.trans (hb1.mono hbz.size)
  have v1 := v0.later hb1
  clear hb1 v0 hbz cg
  cases g
  · have hsx := hsm rfl
    clear hsm
    obtain ⟨tc, htc⟩ := bool_of (MayV x.v)
    have ck := check_any x w.heap.size w1 tc (h.below hb2) hsx hb2.size htc
    obtain ⟨k0, k1, k2, k3⟩ := v1.cells
    have cr := fun W (hb : Below w.heap.size w W) => rcheck_any x w.heap.size W tc (h.below hb) hsx hb.size htc
    cases tc
    · rw [show ckI false = 1 from rfl] at ck
      clear htc
      go_wp2_with fail
      refine ck.mono ?_
      rintro e w2 ⟨rfl, hb1⟩
      have hb3 := hb2.trans (hb1.mono hb2.size)
      have v2 := v1.later hb1
      clear k0 k1 k2 k3 hb1 v1 hb2
      obtain ⟨k0, k1, k2, k3⟩ := v2.cells
      have cr := cr w2 hb3
      go_wp2_with fail
      refine cr.mono ?_
      rintro e w3 ⟨rfl, hb1⟩
      have hb4 := hb3.trans (hb1.mono hb3.size)
      go_wp2_with fail
      refine (awake8_any _).mono ?_
      rintro e w4 ⟨rfl, hb1⟩
      have hb5 := hb4.trans (hb1.mono hb4.size)
      go_wp2
      go_ret
      exact ⟨rfl, hb5⟩
    · rw [show ckI true = 0 from rfl] at ck
      clear htc
      go_wp2_with fail
      refine ck.mono ?_
      rintro e w2 ⟨rfl, hb1⟩
      have hb3 := hb2.trans (hb1.mono hb2.size)
      have v2 := v1.later hb1
      clear k0 k1 k2 k3 hb1 v1 hb2
      obtain ⟨k0, k1, k2, k3⟩ := v2.cells
      have cr := cr w2 hb3
      go_wp2_with fail
      refine cr.mono ?_
      rintro e w3 ⟨rfl, hb1⟩
      have hb4 := hb3.trans (hb1.mono hb3.size)
      go_wp2_with fail
      refine (awake8_any _).mono ?_
      rintro e w4 ⟨rfl, hb1⟩
      have hb5 := hb4.trans (hb1.mono hb4.size)
      go_wp2
      go_ret
      exact ⟨rfl, hb5⟩
  · clear hsm
    go_wp2_with fail
    refine (awake8_any _).mono ?_
    rintro e w3 ⟨rfl, hb1⟩
    have hb4 := hb2.trans (hb1.mono hb2.size)
    go_wp2
    go_ret
    exact ⟨rfl, hb4⟩

/-! ### THE ROW's STEP -/
set_option maxRecDepth 100000 in
theorem lifted (os : Os) (started : os.Started) (H : Type) (enc : TypeId × Value → H) :
    ReturnsInHanded {} Try.checked os 3 .any (Rows.viewChecksSpec.pre6 enc Try.prog Try.f3 Rows.viewChecksRow.domain false) (Rows.viewChecksSpec.post enc Try.prog Try.f3 false true false false) := by
  refine returnsInHanded_of_change (C := Try.checked) own started (by kernel_rfl) Try.func3
    (ChangeSpec.witness6 (enc := enc) (C := Try.checked) false ⟨#[], #[.agg #[.int .u64 0, .slice none 0 0, .slice none 0 0, .slice none 0 0]], []⟩ 8 (by kernel_rfl) (by kernel_rfl) (by kernel_rfl) (by kernel_rfl)) ?_
  intro W base args ds gs before hval0 hW hcnd _
  have hval : ∀ (j : Nat) t v, Try.f3.params[j]? = some t → args[j]? = some v → Value.okWide Try.prog W .any base t v := hval0
  have hW' := hW
  obtain ⟨p, q, hA0, hV, rfl, hfz, hnd⟩ := hW
  have hA : DataW.TrodAll enc Try.prog W 0 (fun _ => true) true Try.f3.params.toList args.toList ds p := hA0
  rw [Try.params3] at hA hval
  obtain ⟨v0, vs0, d0, ds0, p0, q0, hargs, rfl, rfl, h0, r0⟩ := trodAll_cons hA
  obtain ⟨rfl, rfl, rfl⟩ := trodAll_nil r0
  obtain rfl : args = #[v0] := by cases args; simp_all
  obtain ⟨rfl, rfl⟩ := trodVars_none hV
  have k0 := h0
  have lt0 : ∀ x ∈ p0, x.block < W.heap.size := by obtain ⟨m, hm⟩ := k0; exact DataW.trod_lt m _ _ _ hm
  obtain ⟨x0, rfl, hx0⟩ := open_view (hval 0 26 v0 rfl rfl) h0
  clear hA0 hval0
  refine (walk x0 W hx0).mono fun e W' ⟨he, bel⟩ => ?_
  subst he
  exact ⟨_, rfl, _, _, _, [], _, [], hW', trodAll_mk1 (shut_bool Try.underlying4 _), (trodAll_cons_mk (Below.trod laidOut (by kernel_rfl) (of_decide_eq_true (by kernel_rfl)) k0 bel lt0) trodAll_mk0), rfl, bel.frame _, fun h => by cases h⟩

theorem over : Rows.viewChecksRow.holds Try.pinned (OpenSpec.ofChange Rows.viewChecksSpec) :=
  OpenClaim.holds_of_wide 3 Try.f3 rfl rfl rfl rfl rfl rfl rfl ⟨rfl, rfl, rfl, rfl, rfl⟩ rfl rfl rfl rfl rfl (by kernel_rfl) Try.func3 (by kernel_rfl)
    (of_decide_eq_true (by kernel_rfl)) (by unfold Func.isWrapper; first | (rw [if_pos (by decide +kernel)]; kernel_rfl) | (rw [if_neg (by decide +kernel)]; exact ⟨rfl, rfl⟩))
    (fun os started H enc _ => lifted os started H enc)

theorem proved : Rows.ViewChecksSaid := over
#print axioms proved
end Go.Proofs.Ythloamhodapmpaa.viewChecks
