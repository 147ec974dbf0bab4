/-
  The law choraguslaw05.MaskMeet answers true, and does not panic, for every argument that its row allows. Conditions: none but the row's own.
-/
import Derived.Test.YtnaegaeicdknbaaRows
import Derived.WalkKit
import Derived.ProofKit
import Derived.OpenShut
import Derived.ShutString
import Derived.ChangeOld
import Derived.Below
import Derived.Test.YtnaegaeicdknbaaOpen
import Derived.Test.YtnaegaeicdknbaaOpenM
import Derived.Test.YtnaegaeicdknbaaMask5
namespace Go.Proofs.Ytnaegaeicdknbaa.maskMeet
open Go.ChangeShapes Go.WideShapes Go.ChangeAt Go.RowKit
open Go.ChangeMaps (open_string shut_string)
set_option linter.unusedVariables false
set_option linter.unusedSimpArgs false

set_option maxRecDepth 100000 in
theorem walk (a b c d : Nat) (n : Int) (w : World) (ha : a < 18446744073709551616) (hb : b < 18446744073709551616) (hc : c < 18446744073709551616) (hd : d < 18446744073709551616) (hn : (Lit.int .u8 n).wf = true) :
    Calls Try.prog 5 #[.agg #[.int .u64 (a : Int), .int .u64 (b : Int)], .agg #[.int .u64 (c : Int), .int .u64 (d : Int)], .int .u8 n] w fun e w' => e = .returned (.bool true) ∧ Below w.heap.size w w' := by
  have hn' := wf_u8 hn
  clear hn
  obtain ⟨m, rfl⟩ := Int.eq_ofNat_of_zero_le hn'.1
  obtain ⟨k, hk⟩ : ∃ k, k = m % 129 := ⟨_, rfl⟩
  have hk128 : k ≤ 128 := by omega
  have e1 : (m : Int) % 129 = (k : Int) := by omega
  have hmeet := maj_meet a b c d k hk128
  have cm1 := fun W => majority_any a b k W ha hb hk128
  have cm2 := fun W => majority_any c d k W hc hd hk128
  have c1 := fun W => mand_any a b c d W ha hb hc hd
  have c2 := fun W => first_any k W hk128
  have c3 := fun W => mand_any (a &&& c) (b &&& d) (fstA k) (fstB k) W (and_lt64 _ ha) (and_lt64 _ hb) (fst_lt (by omega)) (fst_lt (by omega))
  have c4 := fun W => count_any ((a &&& c) &&& fstA k) ((b &&& d) &&& fstB k) W (and_lt64 _ (and_lt64 _ ha)) (and_lt64 _ (and_lt64 _ hb))
  clear hk
  generalize majB a b k = p at *
  generalize majB c d k = q at *
  have hpl := popM_le ((a &&& c) &&& fstA k) ((b &&& d) &&& fstB k)
  generalize popM ((a &&& c) &&& fstA k) ((b &&& d) &&& fstB k) = t at *
  generalize (a &&& c) &&& fstA k = z1 at *
  generalize (b &&& d) &&& fstB k = z2 at *
  generalize a &&& c = y1 at *
  generalize b &&& d = y2 at *
  generalize fstA k = f1 at *
  generalize fstB k = f2 at *
  obtain ⟨w2, hw2⟩ : ∃ w2, w2 = (w.alloc (.cells #[.int .u64 (a : Int), .int .u64 (b : Int)] 24)).alloc (.cells #[.int .u64 (c : Int), .int .u64 (d : Int)] 24) := ⟨_, rfl⟩
  have m0 : MAt w2 w.heap.size a b := by rw [hw2]; exact (MAt.mk_ w a b).alloc _
  have m1 : MAt w2 (w.heap.size + 1) c d := by rw [hw2]; have := MAt.mk_ (w.alloc (.cells #[.int .u64 (a : Int), .int .u64 (b : Int)] 24)) c d; simpa only [World.size_alloc] using this
  have hb0 : Below w.heap.size w w2 := by rw [hw2]; exact ((Below.refl _ _).alloc (Nat.le_refl _) _).alloc (by simp) _
  have g0 := m0.c0
  have g1 := m0.c1
  have g2 := m1.c0
  have g3 := m1.c1
  have HM := hide hmeet
  clear hmeet
  go_enter Try.func5, Try.ntmps5
  go_wp2_with fail
  rw [← hw2]
  clear hw2
  refine (cm1 _).mono ?_
  rintro e w3 ⟨rfl, hb⟩
  have n0 := m0.later hb
  have n1 := m1.later hb
  have hb3 := hb0.trans (hb.mono hb0.size)
  clear hb hb0 m0 m1 g0 g1 g2 g3 cm1
  cases p
  · go_wp2_with fail
    refine (awake5_any _).mono ?_
    rintro e w4 ⟨rfl, hb⟩
    have hb4 := hb3.trans (hb.mono hb3.size)
    go_wp2
    go_ret
    exact ⟨rfl, hb4⟩
  · have g2 := n1.c0
    have g3 := n1.c1
    go_wp2_with fail
    refine (cm2 _).mono ?_
    rintro e w4 ⟨rfl, hb⟩
    have m0 := n0.later hb
    have m1 := n1.later hb
    have hb4 := hb3.trans (hb.mono hb3.size)
    clear hb hb3 n0 n1 g2 g3 cm2
    cases q
    · go_wp2_with fail
      refine (awake5_any _).mono ?_
      rintro e w5 ⟨rfl, hb⟩
      have hb5 := hb4.trans (hb.mono hb4.size)
      go_wp2
      go_ret
      exact ⟨rfl, hb5⟩
    · have h1 := HM.out trivial rfl
      have g0 := m0.c0
      have g1 := m0.c1
      have g2 := m1.c0
      have g3 := m1.c1
      go_wp2_with fail
      refine (c1 _).mono ?_
      rintro e w5 ⟨rfl, hb⟩
      have hb5 := hb4.trans (hb.mono hb4.size)
      clear hb hb4 g0 g1 g2 g3 m0 m1 c1
      go_wp2_with fail
      refine (c2 _).mono ?_
      rintro e w6 ⟨rfl, hb⟩
      have hb6 := hb5.trans (hb.mono hb5.size)
      clear hb hb5 c2
      go_wp2_with fail
      refine (c3 _).mono ?_
      rintro e w7 ⟨rfl, hb⟩
      have hb7 := hb6.trans (hb.mono hb6.size)
      clear hb hb6 c3
      go_wp2_with fail
      refine (c4 _).mono ?_
      rintro e w8 ⟨rfl, hb⟩
      have hb8 := hb7.trans (hb.mono hb7.size)
      clear hb hb7 c4
      have hd1 : decide ((0 : Int) < (t : Int)) = true := decide_eq_true (by omega)
      go_wp2_with fail
      refine (awake5_any _).mono ?_
      rintro e w9 ⟨rfl, hb⟩
      have hb9 := hb8.trans (hb.mono hb8.size)
      go_wp2
      go_ret
      exact ⟨rfl, hb9⟩

/-! ### THE ROW's STEP -/
set_option maxRecDepth 100000 in
theorem lifted (os : Os) (started : os.Started) (H : Type) (enc : TypeId × Value → H) :
    ReturnsInHanded {} Try.checked os 5 .any (Rows.maskMeetSpec.pre6 enc Try.prog Try.f5 Rows.maskMeetRow.domain false) (Rows.maskMeetSpec.post enc Try.prog Try.f5 false true false false) := by
  refine returnsInHanded_of_change (C := Try.checked) own started (by kernel_rfl) Try.func5
    (ChangeSpec.witness6 (enc := enc) (C := Try.checked) false ⟨#[], #[.agg #[.int .u64 0, .int .u64 0], .agg #[.int .u64 0, .int .u64 0], .int .u8 0], []⟩ 8 (by kernel_rfl) (by kernel_rfl) (by kernel_rfl) (by kernel_rfl)) ?_
  intro W base args ds gs before hval0 hW hcnd _
  have hval : ∀ (j : Nat) t v, Try.f5.params[j]? = some t → args[j]? = some v → Value.okWide Try.prog W .any base t v := hval0
  have hW' := hW
  obtain ⟨p, q, hA0, hV, rfl, hfz, hnd⟩ := hW
  have hA : DataW.TrodAll enc Try.prog W 0 (fun _ => true) true Try.f5.params.toList args.toList ds p := hA0
  rw [Try.params5] at hA hval
  obtain ⟨v0, vs0, d0, ds0, p0, q0, hargs, rfl, rfl, h0, r0⟩ := trodAll_cons hA
  obtain ⟨v1, vs1, d1, ds1, p1, q1, rfl, rfl, rfl, h1, r1⟩ := trodAll_cons r0
  obtain ⟨v2, vs2, d2, ds2, p2, q2, rfl, rfl, rfl, h2, r2⟩ := trodAll_cons r1
  obtain ⟨rfl, rfl, rfl⟩ := trodAll_nil r2
  obtain rfl : args = #[v0, v1, v2] := by cases args; simp_all
  obtain ⟨rfl, rfl⟩ := trodVars_none hV
  have k0 := h0
  have lt0 : ∀ x ∈ p0, x.block < W.heap.size := by obtain ⟨m, hm⟩ := k0; exact DataW.trod_lt m _ _ _ hm
  obtain ⟨x0, y0, rfl, hx0, hy0⟩ := open_mask (hval 0 24 v0 rfl rfl) h0
  have k1 := h1
  have lt1 : ∀ x ∈ p1, x.block < W.heap.size := by obtain ⟨m, hm⟩ := k1; exact DataW.trod_lt m _ _ _ hm
  obtain ⟨x1, y1, rfl, hx1, hy1⟩ := open_mask (hval 1 24 v1 rfl rfl) h1
  have k2 := h2
  have lt2 : ∀ x ∈ p2, x.block < W.heap.size := by obtain ⟨m, hm⟩ := k2; exact DataW.trod_lt m _ _ _ hm
  obtain ⟨a2, rfl, rfl, rfl, w2⟩ := open_int Try.underlying5 (hval 2 5 v2 rfl rfl) h2
  clear hA0 hval0
  refine (walk x0 y0 x1 y1 a2 W hx0 hy0 hx1 hy1 w2).mono fun e W' ⟨he, bel⟩ => ?_
  subst he
  exact ⟨_, rfl, _, _, _, [], _, [], hW', trodAll_mk1 (shut_bool Try.underlying4 _), (trodAll_cons_mk (Below.trod laidOut (by kernel_rfl) (of_decide_eq_true (by kernel_rfl)) k0 bel lt0) (trodAll_cons_mk (Below.trod laidOut (by kernel_rfl) (of_decide_eq_true (by kernel_rfl)) k1 bel lt1) (trodAll_cons_mk (Below.trod laidOut (by kernel_rfl) (of_decide_eq_true (by kernel_rfl)) k2 bel lt2) trodAll_mk0))), rfl, bel.frame _, fun h => by cases h⟩

theorem over : Rows.maskMeetRow.holds Try.pinned (OpenSpec.ofChange Rows.maskMeetSpec) :=
  OpenClaim.holds_of_wide 5 Try.f5 rfl rfl rfl rfl rfl rfl rfl ⟨rfl, rfl, rfl, rfl, rfl⟩ rfl rfl rfl rfl rfl (by kernel_rfl) Try.func5 (by kernel_rfl)
    (of_decide_eq_true (by kernel_rfl)) (by unfold Func.isWrapper; first | (rw [if_pos (by decide +kernel)]; kernel_rfl) | (rw [if_neg (by decide +kernel)]; exact ⟨rfl, rfl⟩))
    (fun os started H enc _ => lifted os started H enc)

theorem proved : Rows.MaskMeetSaid := over
#print axioms proved
end Go.Proofs.Ytnaegaeicdknbaa.maskMeet
