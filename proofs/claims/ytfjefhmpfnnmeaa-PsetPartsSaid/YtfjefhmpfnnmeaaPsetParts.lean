/-
  The law choraguslaw04.PsetParts answers true, and does not panic, for every argument that its row allows. Conditions: none but the row's own.
-/
import Derived.Test.YtfjefhmpfnnmeaaRows
import Derived.WalkKit
import Derived.ProofKit
import Derived.OpenShut
import Derived.ShutString
import Derived.ChangeOld
import Derived.Below
import Derived.Test.YtfjefhmpfnnmeaaOpen
import Derived.Test.YtfjefhmpfnnmeaaOpenP
import Derived.Test.YtfjefhmpfnnmeaaSet9
import Derived.Test.YtfjefhmpfnnmeaaSet6
namespace Go.Proofs.Ytfjefhmpfnnmeaa.psetParts
open Go.ChangeShapes Go.WideShapes Go.ChangeAt Go.RowKit
open Go.ChangeMaps (open_string shut_string)
set_option linter.unusedVariables false
set_option linter.unusedSimpArgs false

theorem parts_len (a : List Pr) (f : Pr → Bool) : (a.filter fun p => !f p).length + (a.filter f).length = a.length := by
  induction a with
  | nil => rfl
  | cons p r ih => cases h : f p <;> simp [List.filter_cons, h] <;> omega
set_option maxRecDepth 100000 in
theorem walk (A : Option Addr) (n c : Nat) (a : List Pr) (A' : Option Addr) (m d : Nat) (b : List Pr) (w : World) (w0 : Ps0 w A n c a) (w1 : Ps0 w A' m d b) :
    Calls Try.prog 4 #[.slice A n c, .slice A' m d] w fun e w' => e = .returned (.bool true) ∧ Below w.heap.size w w' := by
  obtain ⟨hA, hnc, hcm⟩ := w0
  obtain ⟨hO, hmd, hdm⟩ := w1
  unfold maxLen at hcm hdm
  by_cases h6 : 60 < n
  · go_enter Try.func4, Try.ntmps4
    go_wp2_with fail
    refine (awake4_any _).mono ?_
    rintro e w' ⟨rfl, hb⟩
    go_wp2
    go_ret
    exact ⟨rfl, hb⟩
  · by_cases h7 : 60 < m
    · go_enter Try.func4, Try.ntmps4
      go_wp2_with fail
      refine (awake4_any _).mono ?_
      rintro e w' ⟨rfl, hb⟩
      go_wp2
      go_ret
      exact ⟨rfl, hb⟩
    · have hl := parts_len a fun p => decide (p ∈ b)
      rw [hA.len] at hl
      have c1 := fun W (hb : Below w.heap.size w W) => sminus_any A n c a w.heap.size A' m d b w.heap.size W (hA.below hb) hb.size (hO.below hb) hb.size (by omega) (by omega)
      have c2 := fun W (hb : Below w.heap.size w W) => scommon_any A n c a w.heap.size A' m d b w.heap.size W (hA.below hb) hb.size (hO.below hb) hb.size (by omega) (by omega)
      have c3 := fun W (hb : Below w.heap.size w W) => rminus_any A n c a w.heap.size A' m d b w.heap.size W (hA.below hb) hb.size (hO.below hb) hb.size (by omega) (by omega)
      have c4 := fun W (hb : Below w.heap.size w W) => rcommon_any A n c a w.heap.size A' m d b w.heap.size W (hA.below hb) hb.size (hO.below hb) hb.size (by omega) (by omega)
      generalize (a.filter fun p => !decide (p ∈ b)) = x at *
      generalize (a.filter fun p => decide (p ∈ b)) = y at *
      unfold MakesP at c1 c2 c3 c4
      obtain ⟨q, hq⟩ : ∃ q, q = x.length := ⟨_, rfl⟩
      obtain ⟨r, hr⟩ : ∃ r, r = y.length := ⟨_, rfl⟩
      rw [← hq] at c1 c3 hl
      rw [← hr] at c2 c4 hl
      have hl2 : ((q : Int) + (r : Int) == (n : Int)) = true := by simp; omega
      clear hq hr
      go_enter Try.func4, Try.ntmps4
      go_wp2_with fail
      refine (c1 _ (Below.refl _ _)).mono ?_
      rintro e w1 ⟨A1, d1, rfl, ho1, hb1⟩
      clear c1
      go_wp2_with fail
      refine (c2 _ hb1).mono ?_
      rintro e w2 ⟨A2, d2, rfl, ho2, hb⟩
      have ho1 := OwnE.later ho1 hb
      have hb2 := hb1.trans (hb.mono hb1.size)
      clear c2 hb hb1
      go_wp2_with fail
      refine (c3 _ hb2).mono ?_
      rintro e w3 ⟨A3, d3, rfl, ho3, hb⟩
      have ho1 := OwnE.later ho1 hb
      have ho2 := OwnE.later ho2 hb
      have hb3 := hb2.trans (hb.mono hb2.size)
      clear c3 hb hb2
      have cm := samep_eq A1 A3 q q d1 d3 x x _ _ w3 (OwnE.es prOk ho1) (OwnE.es prOk ho3) (by unfold maxLen; omega) rfl
      clear ho1 ho3
      go_wp2_with fail
      refine cm.mono ?_
      rintro e w4 ⟨rfl, hd⟩
      have hb := drawn_below hd (B := w3.heap.size)
      have ho2 := OwnE.later ho2 hb
      have hb4 := hb3.trans (hb.mono hb3.size)
      clear cm hb hd hb3
      go_wp2_with fail
      refine (c4 _ hb4).mono ?_
      rintro e w5 ⟨A5, d5, rfl, ho5, hb⟩
      have ho2 := OwnE.later ho2 hb
      have hb5 := hb4.trans (hb.mono hb4.size)
      clear c4 hb hb4
      have cm := samep_eq A2 A5 r r d2 d5 y y _ _ w5 (OwnE.es prOk ho2) (OwnE.es prOk ho5) (by unfold maxLen; omega) rfl
      clear ho2 ho5
      go_wp2_with fail
      refine cm.mono ?_
      rintro e w6 ⟨rfl, hd⟩
      have hb := drawn_below hd (B := w5.heap.size)
      have hb6 := hb5.trans (hb.mono hb5.size)
      clear cm hb hd hb5
      go_wp2_with fail
      refine (awake4_any _).mono ?_
      rintro e w7 ⟨rfl, hb⟩
      have hb7 := hb6.trans (hb.mono hb6.size)
      clear hb hb6
      go_wp2
      go_ret
      exact ⟨rfl, hb7⟩

/-! ### THE ROW's STEP -/
set_option maxRecDepth 100000 in
theorem lifted (os : Os) (started : os.Started) (H : Type) (enc : TypeId × Value → H) :
    ReturnsInHanded {} Try.checked os 4 .any (Rows.psetPartsSpec.pre6 enc Try.prog Try.f4 Rows.psetPartsRow.domain false) (Rows.psetPartsSpec.post enc Try.prog Try.f4 false true false false) := by
  refine returnsInHanded_of_change (C := Try.checked) own started (by kernel_rfl) Try.func4
    (ChangeSpec.witness6 (enc := enc) (C := Try.checked) false ⟨#[], #[.slice none 0 0, .slice none 0 0], []⟩ 8 (by kernel_rfl) (by kernel_rfl) (by kernel_rfl) (by kernel_rfl)) ?_
  intro W base args ds gs before hval0 hW hcnd _
  have hval : ∀ (j : Nat) t v, Try.f4.params[j]? = some t → args[j]? = some v → Value.okWide Try.prog W .any base t v := hval0
  have hW' := hW
  obtain ⟨p, q, hA0, hV, rfl, hfz, hnd⟩ := hW
  have hA : DataW.TrodAll enc Try.prog W 0 (fun _ => true) true Try.f4.params.toList args.toList ds p := hA0
  rw [Try.params4] at hA hval
  obtain ⟨v0, vs0, d0, ds0, p0, q0, hargs, rfl, rfl, h0, r0⟩ := trodAll_cons hA
  obtain ⟨v1, vs1, d1, ds1, p1, q1, rfl, rfl, rfl, h1, r1⟩ := trodAll_cons r0
  obtain ⟨rfl, rfl, rfl⟩ := trodAll_nil r1
  obtain rfl : args = #[v0, v1] := by cases args; simp_all
  obtain ⟨rfl, rfl⟩ := trodVars_none hV
  have k0 := h0
  have lt0 : ∀ x ∈ p0, x.block < W.heap.size := by obtain ⟨m, hm⟩ := k0; exact DataW.trod_lt m _ _ _ hm
  obtain ⟨a0, len0, cap0, rfl⟩ := okWide_slice Try.underlying22 (hval 0 22 v0 rfl rfl)
  obtain ⟨z0, w0⟩ : ∃ l, Ps0 W a0 len0 cap0 l := by
    obtain ⟨fuel, hf⟩ := h0
    exact pids_row (open_pids hf) rfl
  have k1 := h1
  have lt1 : ∀ x ∈ p1, x.block < W.heap.size := by obtain ⟨m, hm⟩ := k1; exact DataW.trod_lt m _ _ _ hm
  obtain ⟨a1, len1, cap1, rfl⟩ := okWide_slice Try.underlying22 (hval 1 22 v1 rfl rfl)
  obtain ⟨z1, w1⟩ : ∃ l, Ps0 W a1 len1 cap1 l := by
    obtain ⟨fuel, hf⟩ := h1
    exact pids_row (open_pids hf) rfl
  clear hA0 hval0
  refine (walk a0 len0 cap0 z0 a1 len1 cap1 z1 W w0 w1).mono fun e W' ⟨he, bel⟩ => ?_
  subst he
  exact ⟨_, rfl, _, _, _, [], _, [], hW', trodAll_mk1 (shut_bool Try.underlying4 _), (trodAll_cons_mk (Below.trod laidOut (by kernel_rfl) (of_decide_eq_true (by kernel_rfl)) k0 bel lt0) (trodAll_cons_mk (Below.trod laidOut (by kernel_rfl) (of_decide_eq_true (by kernel_rfl)) k1 bel lt1) trodAll_mk0)), rfl, bel.frame _, fun h => by cases h⟩

theorem over : Rows.psetPartsRow.holds Try.pinned (OpenSpec.ofChange Rows.psetPartsSpec) :=
  OpenClaim.holds_of_wide 4 Try.f4 rfl rfl rfl rfl rfl rfl rfl ⟨rfl, rfl, rfl, rfl, rfl⟩ rfl rfl rfl rfl rfl (by kernel_rfl) Try.func4 (by kernel_rfl)
    (of_decide_eq_true (by kernel_rfl)) (by unfold Func.isWrapper; first | (rw [if_pos (by decide +kernel)]; kernel_rfl) | (rw [if_neg (by decide +kernel)]; exact ⟨rfl, rfl⟩))
    (fun os started H enc _ => lifted os started H enc)

theorem proved : Rows.PsetPartsSaid := over
#print axioms proved
end Go.Proofs.Ytfjefhmpfnnmeaa.psetParts
