/-
  The law choraguslaw01.BitsBack answers true, and does not panic, for every argument that its row allows. Conditions: none but the row's own.
-/
import Derived.Test.YtapnlclcphcbfaaRows
import Derived.WalkKit
import Derived.ProofKit
import Derived.OpenShut
import Derived.ShutString
import Derived.ChangeOld
import Derived.Below
import Derived.Test.YtapnlclcphcbfaaOpen
import Derived.Test.YtapnlclcphcbfaaAwake1
import Derived.Test.YtapnlclcphcbfaaGet1
namespace Go.Proofs.Ytapnlclcphcbfaa.bitsBack
open Go.ChangeShapes Go.WideShapes Go.ChangeAt Go.RowKit
open Go.ChangeMaps (open_string shut_string)
set_option linter.unusedVariables false
set_option linter.unusedSimpArgs false

set_option maxRecDepth 100000 in
theorem walk (a0 a1 : Int) (w : World) (w0 : (Lit.int .u64 a0).wf = true) (w1 : (Lit.int .i64 a1).wf = true) :
    Calls Try.prog 5 #[.int .u64 a0, .int .i64 a1] w fun e w' => e = .returned (.bool true) ∧ Below w.heap.size w w' := by
  have b0 := wf_u64 w0
  clear w0 w1
  obtain ⟨n, rfl⟩ := Int.eq_ofNat_of_zero_le b0.1
  have hn : n < 18446744073709551616 := by omega
  clear b0
  cases hW : widthB a1
  · have HW := hide hW
    clear hW hn
    go_enter Try.func5, Try.ntmps5
    go_wp2_with fail
    refine (narrow_no _ _ _ HW.out).mono ?_
    rintro e w' ⟨rfl, rfl⟩
    go_wp2_with fail
    refine (rwidth_any _ _).mono ?_
    rintro e w' ⟨rfl, rfl⟩
    rw [HW.out]
    go_wp2_with fail
    refine (awake_any _).mono ?_
    rintro e w' ⟨rfl, hb⟩
    go_wp2
    go_ret
    exact ⟨rfl, hb⟩
  · have hc := widthB_cases hW
    obtain ⟨W, rfl⟩ : ∃ W : Nat, a1 = (W : Int) := ⟨a1.toNat, by omega⟩
    have hW8 : W = 8 → narrowF n W = n := by rintro rfl; exact narrow_8 n hn
    obtain ⟨x, hx⟩ : ∃ x, x = narrowF n W := ⟨_, rfl⟩
    have hfin : ((W : Int) == 8) = true → ((x : Int) == (n : Int)) = true := by
      intro h; rw [beq_iff_eq] at h; rw [hx, hW8 (by omega)]; simp
    have hnum : numL ((formL n W).take W) = x := by
      rw [List.take_of_length_le (by rw [formL_len]; exact Nat.le_refl _), numL_form, hx]; rfl
    have C1 := hide (narrow_any n W w hn hW)
    rw [← hx] at C1
    have HW := hide hW
    have HN := hide hn
    have HX := hide hnum
    clear hW hn hx hnum hW8
    have hWb : W ≤ 8 := by omega
    clear hc
    cases h8 : ((W : Int) == 8)
    all_goals cases hxn : ((x : Int) == (n : Int))
    all_goals try (exact absurd (hfin h8) (by rw [hxn]; decide))
    all_goals clear hfin
    all_goals go_enter Try.func5, Try.ntmps5
    all_goals go_wp2_with fail
    all_goals refine (unhide C1).mono ?_
    all_goals rintro e w' ⟨rfl, rfl⟩
    all_goals go_wp2_with fail
    all_goals refine (rwidth_any _ _).mono ?_
    all_goals rintro e w' ⟨rfl, rfl⟩
    all_goals rw [HW.out]
    all_goals go_wp2_with fail
    all_goals refine (put_any none 0 0 [] 0 n W _ Bs.none_ (Nat.zero_le _) (by decide) HN.out HW.out).mono ?_
    all_goals rintro e w1 ⟨rfl, hown, hb, hlt⟩
    all_goals simp only [Nat.zero_add, List.nil_append] at hown
    all_goals go_wp2_with fail
    all_goals refine (get_any _ W W W (formL n W) _ _ hown.bs (by unfold maxLen; omega) (Nat.le_refl _) HW.out (Nat.le_refl _)).mono ?_
    all_goals rintro e w2 ⟨rfl, rfl⟩
    all_goals rw [HX.out]
    all_goals have hxx : ((x : Int) == (x : Int)) = true := by simp
    all_goals go_wp2_with fail
    all_goals refine (awake_any _).mono ?_
    all_goals rintro e w2 ⟨rfl, hb2⟩
    all_goals go_wp2
    all_goals go_ret
    all_goals exact ⟨rfl, hb.trans (hb2.mono (by omega))⟩

/-! ### THE ROW's STEP -/
set_option maxRecDepth 100000 in
theorem lifted (os : Os) (started : os.Started) (H : Type) (enc : TypeId × Value → H) :
    ReturnsInHanded {} Try.checked os 5 .any (Rows.bitsBackSpec.pre6 enc Try.prog Try.f5 Rows.bitsBackRow.domain false) (Rows.bitsBackSpec.post enc Try.prog Try.f5 false true false false) := by
  refine returnsInHanded_of_change (C := Try.checked) own started (by kernel_rfl) Try.func5
    (ChangeSpec.witness6 (enc := enc) (C := Try.checked) false ⟨#[], #[.int .u64 0, .int .i64 0], []⟩ 8 (by kernel_rfl) (by kernel_rfl) (by kernel_rfl) (by kernel_rfl)) ?_
  intro W base args ds gs before hval0 hW hcnd _
  have hval : ∀ (j : Nat) t v, Try.f5.params[j]? = some t → args[j]? = some v → Value.okWide Try.prog W .any base t v := hval0
  have hW' := hW
  obtain ⟨p, q, hA0, hV, rfl, hfz, hnd⟩ := hW
  have hA : DataW.TrodAll enc Try.prog W 0 (fun _ => true) true Try.f5.params.toList args.toList ds p := hA0
  rw [Try.params5] at hA hval
  obtain ⟨v0, vs0, d0, ds0, p0, q0, hargs, rfl, rfl, h0, r0⟩ := trodAll_cons hA
  obtain ⟨v1, vs1, d1, ds1, p1, q1, rfl, rfl, rfl, h1, r1⟩ := trodAll_cons r0
  obtain ⟨rfl, rfl, rfl⟩ := trodAll_nil r1
  obtain rfl : args = #[v0, v1] := by cases args; simp_all
  obtain ⟨rfl, rfl⟩ := trodVars_none hV
  have k0 := h0
  have lt0 : ∀ x ∈ p0, x.block < W.heap.size := by obtain ⟨m, hm⟩ := k0; exact DataW.trod_lt m _ _ _ hm
  obtain ⟨a0, rfl, rfl, rfl, w0⟩ := open_int Try.underlying23 (hval 0 23 v0 rfl rfl) h0
  have k1 := h1
  have lt1 : ∀ x ∈ p1, x.block < W.heap.size := by obtain ⟨m, hm⟩ := k1; exact DataW.trod_lt m _ _ _ hm
  obtain ⟨a1, rfl, rfl, rfl, w1⟩ := open_int Try.underlying3 (hval 1 3 v1 rfl rfl) h1
  clear hA0 hval0
  refine (walk a0 a1 W w0 w1).mono fun e W' ⟨he, bel⟩ => ?_
  subst he
  exact ⟨_, rfl, _, _, _, [], _, [], hW', trodAll_mk1 (shut_bool Try.underlying4 _), (trodAll_cons_mk (Below.trod laidOut (by kernel_rfl) (of_decide_eq_true (by kernel_rfl)) k0 bel lt0) (trodAll_cons_mk (Below.trod laidOut (by kernel_rfl) (of_decide_eq_true (by kernel_rfl)) k1 bel lt1) trodAll_mk0)), rfl, bel.frame _, fun h => by cases h⟩

theorem over : Rows.bitsBackRow.holds Try.pinned (OpenSpec.ofChange Rows.bitsBackSpec) :=
  OpenClaim.holds_of_wide 5 Try.f5 rfl rfl rfl rfl rfl rfl rfl ⟨rfl, rfl, rfl, rfl, rfl⟩ rfl rfl rfl rfl rfl (by kernel_rfl) Try.func5 (by kernel_rfl)
    (of_decide_eq_true (by kernel_rfl)) (by unfold Func.isWrapper; first | (rw [if_pos (by decide +kernel)]; kernel_rfl) | (rw [if_neg (by decide +kernel)]; exact ⟨rfl, rfl⟩))
    (fun os started H enc _ => lifted os started H enc)

theorem proved : Rows.BitsBackSaid := over
#print axioms proved
end Go.Proofs.Ytapnlclcphcbfaa.bitsBack
