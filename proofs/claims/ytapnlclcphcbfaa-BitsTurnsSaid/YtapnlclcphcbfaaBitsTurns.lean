/-
  The law choraguslaw01.BitsTurns answers true, and does not panic, for every argument that its row allows. Conditions: none but the row's own.
-/
import Derived.Test.YtapnlclcphcbfaaRows
import Derived.WalkKit
import Derived.ProofKit
import Derived.OpenShut
import Derived.ShutString
import Derived.ChangeOld
import Derived.Below
import Derived.Test.YtapnlclcphcbfaaOpen
import Derived.Test.YtapnlclcphcbfaaAwake1
import Derived.Test.YtapnlclcphcbfaaBit1
namespace Go.Proofs.Ytapnlclcphcbfaa.bitsTurns
open Go.ChangeShapes Go.WideShapes Go.ChangeAt Go.RowKit
open Go.ChangeMaps (open_string shut_string)
set_option linter.unusedVariables false
set_option linter.unusedSimpArgs false

set_option maxRecDepth 100000 in
theorem walk (a0 a1 : Int) (w : World) (w0 : (Lit.int .u64 a0).wf = true) (w1 : (Lit.int .i64 a1).wf = true) :
    Calls Try.prog 10 #[.int .u64 a0, .int .i64 a1] w fun e w' => e = .returned (.bool true) ∧ Below w.heap.size w w' := by
  have b0 := wf_u64 w0
  have b1 := wf_i64 w1
  clear w0 w1
  obtain ⟨n, rfl⟩ := Int.eq_ofNat_of_zero_le b0.1
  have hn : n < 18446744073709551616 := by omega
  clear b0
  obtain ⟨k, hk⟩ : ∃ k, k = (a1 % 64).toNat := ⟨_, rfl⟩
  have hk64 : k < 64 := by omega
  obtain ⟨t, ht⟩ : ∃ t, t = turnF n k := ⟨_, rfl⟩
  have ht64 : t < 18446744073709551616 := by rw [ht]; exact turnF_lt n k hn (by omega)
  have hbit : ∀ i, i < 64 → bitB t ((i + k) % 64) = bitB n i := fun i hi => by rw [ht]; exact (turn_bit n k i hn hk64 hi).symm
  have hback : turnF t ((64 - (k : Int)) % 64).toNat = n := by
    rw [ht]
    by_cases h0 : k = 0
    · subst h0
      rw [turnF_zero n hn]
      exact turnF_zero n hn
    · rw [show ((64 - (k : Int)) % 64).toNat = 64 - k from by omega]
      exact turn_back n k hn (by omega) hk64
  have hzero := turnF_zero n hn
  have C1 := turn_any n a1 w hn
  rw [← hk, ← ht] at C1
  have C2 := pick_64 a1 w b1.1 b1.2
  rw [← hk] at C2
  have C1 := hide C1
  have C2 := hide C2
  have C3 := hide (turn_any t (64 - (k : Int)) w ht64)
  rw [hback] at C3
  have C4 := hide (turn_any n 0 w hn)
  rw [show turnF n ((0 : Int) % 64).toNat = n from hzero] at C4
  have HB := hide hbit
  have HN := hide hn
  have HT := hide ht64
  clear hbit hn ht64 hback hzero ht hk b1
  have t1 : ((n : Int) == (n : Int)) = true := by simp
  go_enter Try.func10, Try.ntmps10
  go_wp2_with fail
  refine (unhide C1).mono ?_
  rintro e w' ⟨rfl, rfl⟩
  go_wp2_with fail
  refine (unhide C2).mono ?_
  rintro e w' ⟨rfl, rfl⟩
  go_wp2
  go_loop [7] (fun i => ∃ j : Nat, j ≤ 64 ∧ i = .int .i64 j) (fun i => 64 - (intOf i).toNat)
  case atStart => exact ⟨0, by omega, rfl⟩
  case round =>
    obtain ⟨j, hj, rfl⟩ := hrel
    by_cases hlt : j < 64
    · go_wp2_with fail
      refine (bit_any n j _ (by omega) HN.out).mono ?_
      rintro e w' ⟨rfl, rfl⟩
      go_wp2_with fail
      rw [show ((j : Int) + (k : Int)) % 64 = (((j + k) % 64 : Nat) : Int) from by omega]
      refine (bit_any t ((j + k) % 64) _ (by omega) HT.out).mono ?_
      rintro e w' ⟨rfl, rfl⟩
      rw [HB.out j hlt]
      have t2 : (bitB n j != bitB n j) = false := by simp
      go_wp2
      go_round
      case rel => exact ⟨j + 1, by omega, by go_num⟩
      case measure => simp [intOf]; omega
    · go_wp2_with fail
      refine (unhide C3).mono ?_
      rintro e w' ⟨rfl, rfl⟩
      go_wp2_with fail
      refine (unhide C4).mono ?_
      rintro e w' ⟨rfl, rfl⟩
      go_wp2_with fail
      refine (awake_any _).mono ?_
      rintro e w' ⟨rfl, hb⟩
      go_wp2
      go_ret
      exact ⟨rfl, hb⟩

/-! ### THE ROW's STEP -/
set_option maxRecDepth 100000 in
theorem lifted (os : Os) (started : os.Started) (H : Type) (enc : TypeId × Value → H) :
    ReturnsInHanded {} Try.checked os 10 .any (Rows.bitsTurnsSpec.pre6 enc Try.prog Try.f10 Rows.bitsTurnsRow.domain false) (Rows.bitsTurnsSpec.post enc Try.prog Try.f10 false true false false) := by
  refine returnsInHanded_of_change (C := Try.checked) own started (by kernel_rfl) Try.func10
    (ChangeSpec.witness6 (enc := enc) (C := Try.checked) false ⟨#[], #[.int .u64 0, .int .i64 0], []⟩ 8 (by kernel_rfl) (by kernel_rfl) (by kernel_rfl) (by kernel_rfl)) ?_
  intro W base args ds gs before hval0 hW hcnd _
  have hval : ∀ (j : Nat) t v, Try.f10.params[j]? = some t → args[j]? = some v → Value.okWide Try.prog W .any base t v := hval0
  have hW' := hW
  obtain ⟨p, q, hA0, hV, rfl, hfz, hnd⟩ := hW
  have hA : DataW.TrodAll enc Try.prog W 0 (fun _ => true) true Try.f10.params.toList args.toList ds p := hA0
  rw [Try.params10] at hA hval
  obtain ⟨v0, vs0, d0, ds0, p0, q0, hargs, rfl, rfl, h0, r0⟩ := trodAll_cons hA
  obtain ⟨v1, vs1, d1, ds1, p1, q1, rfl, rfl, rfl, h1, r1⟩ := trodAll_cons r0
  obtain ⟨rfl, rfl, rfl⟩ := trodAll_nil r1
  obtain rfl : args = #[v0, v1] := by cases args; simp_all
  obtain ⟨rfl, rfl⟩ := trodVars_none hV
  have k0 := h0
  have lt0 : ∀ x ∈ p0, x.block < W.heap.size := by obtain ⟨m, hm⟩ := k0; exact DataW.trod_lt m _ _ _ hm
  obtain ⟨a0, rfl, rfl, rfl, w0⟩ := open_int Try.underlying23 (hval 0 23 v0 rfl rfl) h0
  have k1 := h1
  have lt1 : ∀ x ∈ p1, x.block < W.heap.size := by obtain ⟨m, hm⟩ := k1; exact DataW.trod_lt m _ _ _ hm
  obtain ⟨a1, rfl, rfl, rfl, w1⟩ := open_int Try.underlying3 (hval 1 3 v1 rfl rfl) h1
  clear hA0 hval0
  refine (walk a0 a1 W w0 w1).mono fun e W' ⟨he, bel⟩ => ?_
  subst he
  exact ⟨_, rfl, _, _, _, [], _, [], hW', trodAll_mk1 (shut_bool Try.underlying4 _), (trodAll_cons_mk (Below.trod laidOut (by kernel_rfl) (of_decide_eq_true (by kernel_rfl)) k0 bel lt0) (trodAll_cons_mk (Below.trod laidOut (by kernel_rfl) (of_decide_eq_true (by kernel_rfl)) k1 bel lt1) trodAll_mk0)), rfl, bel.frame _, fun h => by cases h⟩

theorem over : Rows.bitsTurnsRow.holds Try.pinned (OpenSpec.ofChange Rows.bitsTurnsSpec) :=
  OpenClaim.holds_of_wide 10 Try.f10 rfl rfl rfl rfl rfl rfl rfl ⟨rfl, rfl, rfl, rfl, rfl⟩ rfl rfl rfl rfl rfl (by kernel_rfl) Try.func10 (by kernel_rfl)
    (of_decide_eq_true (by kernel_rfl)) (by unfold Func.isWrapper; first | (rw [if_pos (by decide +kernel)]; kernel_rfl) | (rw [if_neg (by decide +kernel)]; exact ⟨rfl, rfl⟩))
    (fun os started H enc _ => lifted os started H enc)

theorem proved : Rows.BitsTurnsSaid := over
#print axioms proved
end Go.Proofs.Ytapnlclcphcbfaa.bitsTurns
