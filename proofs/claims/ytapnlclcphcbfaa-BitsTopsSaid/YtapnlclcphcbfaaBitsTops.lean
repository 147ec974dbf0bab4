/-
  The law choraguslaw01.BitsTops answers true, and does not panic, for every argument that its row allows. Conditions: none but the row's own.
-/
import Derived.Test.YtapnlclcphcbfaaRows
import Derived.WalkKit
import Derived.ProofKit
import Derived.OpenShut
import Derived.ShutString
import Derived.ChangeOld
import Derived.Below
import Derived.Test.YtapnlclcphcbfaaOpen
import Derived.Test.YtapnlclcphcbfaaAwake1
import Derived.Test.YtapnlclcphcbfaaBit1
namespace Go.Proofs.Ytapnlclcphcbfaa.bitsTops
open Go.ChangeShapes Go.WideShapes Go.ChangeAt Go.RowKit
open Go.ChangeMaps (open_string shut_string)
set_option linter.unusedVariables false
set_option linter.unusedSimpArgs false

set_option maxRecDepth 100000 in
theorem walk (a0 : Int) (w : World) (w0 : (Lit.int .u64 a0).wf = true) :
    Calls Try.prog 9 #[.int .u64 a0] w fun e w' => e = .returned (.bool true) ∧ Below w.heap.size w w' := by
  have b0 := wf_u64 w0
  clear w0
  obtain ⟨n, rfl⟩ := Int.eq_ofNat_of_zero_le b0.1
  have hn : n < 18446744073709551616 := by omega
  have hk := topL_le n
  have hz := topL_zero_iff n
  have ht := topL_bit n hn
  have hov := fun i h => topL_over n i hn h
  obtain ⟨k, hk0⟩ : ∃ k, k = topL n := ⟨_, rfl⟩
  have HC := hide (top_any n w hn)
  rw [← hk0] at hk hz ht hov HC
  clear b0 hk0
  have HN := hide hn
  clear hn
  have HZ := hide hz
  clear hz
  have HT := hide ht
  clear ht
  have HO := hide hov
  clear hov
  by_cases h0 : k = 0
  · obtain rfl : n = 0 := HZ.out.1 h0
    subst h0
    go_enter Try.func9, Try.ntmps9
    go_wp2_with fail
    refine (unhide HC).mono ?_
    rintro e w' ⟨rfl, rfl⟩
    go_wp2
    go_loop [4] (fun i => ∃ j : Nat, j ≤ 64 ∧ i = .int .i64 j) (fun i => 64 - (intOf i).toNat)
    case atStart => exact ⟨0, by omega, rfl⟩
    case round =>
      obtain ⟨j, hj, rfl⟩ := hrel
      by_cases hlt : j < 64
      · go_wp2_with fail
        refine (bit_any 0 j _ (by omega) HN.out).mono ?_
        rintro e w' ⟨rfl, rfl⟩
        rw [HO.out j (by omega)]
        go_wp2
        go_round
        case rel => exact ⟨j + 1, by omega, by go_num⟩
        case measure => simp [intOf]; omega
      · go_wp2_with fail
        refine (awake_any _).mono ?_
        rintro e w' ⟨rfl, hb⟩
        go_wp2
        go_ret
        exact ⟨rfl, hb⟩
  · have hn0 : n ≠ 0 := fun e => h0 (HZ.out.2 e)
    have t1 : ((k : Int) == 0) = false := by rw [beq_eq_false_iff_ne]; omega
    have t2 : ((n : Int) == 0) = false := by rw [beq_eq_false_iff_ne]; omega
    have hkp : 0 < k := by omega
    clear h0 hn0
    go_enter Try.func9, Try.ntmps9
    go_wp2_with fail
    refine (unhide HC).mono ?_
    rintro e w' ⟨rfl, rfl⟩
    go_wp2_with fail
    obtain ⟨k1, rfl⟩ : ∃ k1, k = k1 + 1 := ⟨k - 1, by omega⟩
    rw [show (((k1 + 1 : Nat) : Int) - 1) = (k1 : Int) from by omega]
    refine (bit_any n k1 _ (by omega) HN.out).mono ?_
    rintro e w' ⟨rfl, rfl⟩
    rw [show bitB n k1 = true from HT.out hkp]
    go_wp2
    go_loop [4] (fun i => ∃ j : Nat, k1 + 1 ≤ j ∧ j ≤ 64 ∧ i = .int .i64 j) (fun i => 64 - (intOf i).toNat)
    case atStart => exact ⟨k1 + 1, by omega, by omega, by go_num⟩
    case round =>
      obtain ⟨j, hkj, hj, rfl⟩ := hrel
      by_cases hlt : j < 64
      · go_wp2_with fail
        refine (bit_any n j _ (by omega) HN.out).mono ?_
        rintro e w' ⟨rfl, rfl⟩
        rw [HO.out j (by omega)]
        go_wp2
        go_round
        case rel => exact ⟨j + 1, by omega, by omega, by go_num⟩
        case measure => simp [intOf]; omega
      · go_wp2_with fail
        refine (awake_any _).mono ?_
        rintro e w' ⟨rfl, hb⟩
        go_wp2
        go_ret
        exact ⟨rfl, hb⟩

/-! ### THE ROW's STEP -/
set_option maxRecDepth 100000 in
theorem lifted (os : Os) (started : os.Started) (H : Type) (enc : TypeId × Value → H) :
    ReturnsInHanded {} Try.checked os 9 .any (Rows.bitsTopsSpec.pre6 enc Try.prog Try.f9 Rows.bitsTopsRow.domain false) (Rows.bitsTopsSpec.post enc Try.prog Try.f9 false true false false) := by
  refine returnsInHanded_of_change (C := Try.checked) own started (by kernel_rfl) Try.func9
    (ChangeSpec.witness6 (enc := enc) (C := Try.checked) false ⟨#[], #[.int .u64 0], []⟩ 8 (by kernel_rfl) (by kernel_rfl) (by kernel_rfl) (by kernel_rfl)) ?_
  intro W base args ds gs before hval0 hW hcnd _
  have hval : ∀ (j : Nat) t v, Try.f9.params[j]? = some t → args[j]? = some v → Value.okWide Try.prog W .any base t v := hval0
  have hW' := hW
  obtain ⟨p, q, hA0, hV, rfl, hfz, hnd⟩ := hW
  have hA : DataW.TrodAll enc Try.prog W 0 (fun _ => true) true Try.f9.params.toList args.toList ds p := hA0
  rw [Try.params9] at hA hval
  obtain ⟨v0, vs0, d0, ds0, p0, q0, hargs, rfl, rfl, h0, r0⟩ := trodAll_cons hA
  obtain ⟨rfl, rfl, rfl⟩ := trodAll_nil r0
  obtain rfl : args = #[v0] := by cases args; simp_all
  obtain ⟨rfl, rfl⟩ := trodVars_none hV
  have k0 := h0
  have lt0 : ∀ x ∈ p0, x.block < W.heap.size := by obtain ⟨m, hm⟩ := k0; exact DataW.trod_lt m _ _ _ hm
  obtain ⟨a0, rfl, rfl, rfl, w0⟩ := open_int Try.underlying23 (hval 0 23 v0 rfl rfl) h0
  clear hA0 hval0
  refine (walk a0 W w0).mono fun e W' ⟨he, bel⟩ => ?_
  subst he
  exact ⟨_, rfl, _, _, _, [], _, [], hW', trodAll_mk1 (shut_bool Try.underlying4 _), (trodAll_cons_mk (Below.trod laidOut (by kernel_rfl) (of_decide_eq_true (by kernel_rfl)) k0 bel lt0) trodAll_mk0), rfl, bel.frame _, fun h => by cases h⟩

theorem over : Rows.bitsTopsRow.holds Try.pinned (OpenSpec.ofChange Rows.bitsTopsSpec) :=
  OpenClaim.holds_of_wide 9 Try.f9 rfl rfl rfl rfl rfl rfl rfl ⟨rfl, rfl, rfl, rfl, rfl⟩ rfl rfl rfl rfl rfl (by kernel_rfl) Try.func9 (by kernel_rfl)
    (of_decide_eq_true (by kernel_rfl)) (by unfold Func.isWrapper; first | (rw [if_pos (by decide +kernel)]; kernel_rfl) | (rw [if_neg (by decide +kernel)]; exact ⟨rfl, rfl⟩))
    (fun os started H enc _ => lifted os started H enc)

theorem proved : Rows.BitsTopsSaid := over
#print axioms proved
end Go.Proofs.Ytapnlclcphcbfaa.bitsTops
