/-
  The law choraguslaw01.BitsForms answers true, and does not panic, for every argument that its row allows. Conditions: none but the row's own.
-/
import Derived.Test.YtapnlclcphcbfaaRows
import Derived.WalkKit
import Derived.ProofKit
import Derived.OpenShut
import Derived.ShutString
import Derived.ChangeOld
import Derived.Below
import Derived.Test.YtapnlclcphcbfaaOpen
import Derived.Test.YtapnlclcphcbfaaAwake1
import Derived.Test.YtapnlclcphcbfaaLent1
namespace Go.Proofs.Ytapnlclcphcbfaa.bitsForms
open Go.ChangeShapes Go.WideShapes Go.ChangeAt Go.RowKit
open Go.ChangeMaps (open_string shut_string)
set_option linter.unusedVariables false
set_option linter.unusedSimpArgs false

set_option maxRecDepth 100000 in
theorem walk (A : Option Addr) (n c : Nat) (zs : List Int) (a1 W : Int) (w : World) (w0 : IsRow .u8 w A n c zs) (_b : ∀ x, A = some x → 0 < n → x.block < w.heap.size) (w1 : (Lit.int .u64 a1).wf = true) (w2 : (Lit.int .i64 W).wf = true) :
    Calls Try.prog 3 #[.slice A n c, .int .u64 a1, .int .i64 W] w fun e w' => e = .returned (.bool true) ∧ Below w.heap.size w w' := by
  obtain ⟨l, hA, hnc, hc⟩ := isRow_bytes w0
  have b1 := wf_u64 w1
  clear w0 _b w1 w2
  obtain ⟨x, rfl⟩ := Int.eq_ofNat_of_zero_le b1.1
  have hx : x < 18446744073709551616 := by omega
  have HX := hide hx
  clear b1 hx
  unfold maxLen at hc
  by_cases h2 : 2000 < n
  · go_enter Try.func3, Try.ntmps3
    go_wp2_with fail
    refine (awake_any _).mono ?_
    rintro e w' ⟨rfl, hb⟩
    go_wp2
    go_ret
    exact ⟨rfl, hb⟩
  · have hlen := hA.len
    have HL := hide hlen
    clear hlen
    cases hW : widthB W
    · have HW := hide hW
      clear hW
      go_enter Try.func3, Try.ntmps3
      go_wp2_with fail
      refine (lent_any A n c l _ _ hA (Nat.le_refl _) (by omega)).mono ?_
      rintro e w1 ⟨rfl, hL, hb1⟩
      have hs1 := hL.lt
      go_wp2_with fail
      refine (put_none _ n _ l _ _ W _ (hL.bs HL.out (by omega)) (Nat.le_refl _) (by omega) HW.out).mono ?_
      rintro e w2 ⟨rfl, hown, hb2, hlt2⟩
      have hL2 : LentB w2 w.heap.size l := BlkB.later hL hb2
      have hb12 := hb1.trans (hb2.mono (by omega))
      have hA2 := hA.below hb12
      simp only [Nat.add_zero] at hown
      go_wp2_with (at_builtin; refine wp_bytes_own _ rfl (.tmp 20) (.tmp 21) rfl w2.heap.size 0 _ [] rfl (own_lit w2 _ 0 [] _ rfl rfl (by decide) (Nat.le_refl _)) _ A n c l rfl (hA2.alloc (by omega) _) (by omega) w2.heap.size w2 ((Below.refl _ _).alloc (Nat.le_refl _) _) (Nat.le_refl _) (by simp) ?_)
      intro A3 c3 w3 hwant hb3 hsz3
      have hown3 := hown.later hb3
      have hL3 : LentB w3 w.heap.size l := BlkB.later hL2 hb3
      have hb13 := hb12.trans (hb3.mono (by omega))
      have hA3 := hA.below hb13
      clear hown hL2 hL hA2 hA
      go_wp2_with fail
      refine (rwidth_any _ _).mono ?_
      rintro e w' ⟨rfl, rfl⟩
      rw [HW.out]
      go_wp2_with fail
      refine (same_eq _ _ _ _ _ _ l l _ _ _ hown3.bs hwant.bs (by unfold maxLen; omega) rfl).mono ?_
      rintro e w' ⟨rfl, ⟨nq, rfl⟩⟩
      go_wp2_with fail
      refine (kept_any A n _ _ l _ _ (hA3.drewN nq) (BlkB.drewN hL3 nq) (by omega)).mono ?_
      rintro e w' ⟨rfl, ⟨nr, rfl⟩⟩
      go_wp2_with fail
      refine (awake_any _).mono ?_
      rintro e w4 ⟨rfl, hb4⟩
      have hs3 := hb13.size
      have hbz : Below w.heap.size w w4 := by
        refine (below_drewN (below_drewN hb13 nq) nr).trans ?_
        first | exact hb4.mono hs3 | (simp only [World.drewN_drewN]; exact hb4.mono hs3)
      clear hb4
      go_wp2
      go_ret
      exact ⟨rfl, hbz⟩
    · have hcs := widthB_cases hW
      obtain ⟨W, rfl⟩ : ∃ W' : Nat, W = (W' : Int) := ⟨W.toNat, by omega⟩
      have HW := hide hW
      clear hW
      have hWb : W ≤ 8 := by omega
      clear hcs
      go_enter Try.func3, Try.ntmps3
      go_wp2_with fail
      refine (lent_any A n c l _ _ hA (Nat.le_refl _) (by omega)).mono ?_
      rintro e w1 ⟨rfl, hL, hb1⟩
      have hs1 := hL.lt
      go_wp2_with fail
      refine (put_any _ n _ l _ x W _ (hL.bs HL.out (by omega)) (Nat.le_refl _) (by omega) HX.out HW.out).mono ?_
      rintro e w2 ⟨rfl, hown, hb2, hlt2⟩
      have hL2 : LentB w2 w.heap.size l := BlkB.later hL hb2
      have hb12 := hb1.trans (hb2.mono (by omega))
      have hA2 := hA.below hb12
      go_wp2_with (at_builtin; refine wp_bytes_own _ rfl (.tmp 20) (.tmp 21) rfl w2.heap.size 0 _ [] rfl (own_lit w2 _ 0 [] _ rfl rfl (by decide) (Nat.le_refl _)) _ A n c l rfl (hA2.alloc (by omega) _) (by omega) w2.heap.size w2 ((Below.refl _ _).alloc (Nat.le_refl _) _) (Nat.le_refl _) (by simp) ?_)
      intro A3 c3 w3 hwant hb3 hsz3
      have hown3 := hown.later hb3
      have hL3 : LentB w3 w.heap.size l := BlkB.later hL2 hb3
      have hb13 := hb12.trans (hb3.mono (by omega))
      have hA3 := hA.below hb13
      clear hown hL2 hL hA2 hA
      go_wp2_with fail
      refine (rwidth_any _ _).mono ?_
      rintro e w' ⟨rfl, rfl⟩
      rw [HW.out]
      go_wp2_with fail
      refine (rform_any x W _ HX.out hWb).mono ?_
      rintro e w4 ⟨rfl, hform, hb4⟩
      have hfb : Bs w4 w4.heap.size (some ⟨w3.heap.size, 0, none⟩) W (formL x W) := (hform.own (Nat.zero_le _) (Nat.le_refl _) (by unfold maxLen; omega) (by rw [bvs_len, formL_len]) (List.take_of_length_le (by rw [bvs_len, formL_len]; omega)) (formL_len x W)).bs
      have hwant4 := hwant.later hb4
      have hown4 := hown3.later hb4
      have hL4 : LentB w4 w.heap.size l := BlkB.later hL3 hb4
      have hs3 := hb3.size
      have hs4 := hb4.size
      have hb14 := hb13.trans (hb4.mono (by omega))
      have hA4 := hA3.below (hb4.mono (by omega))
      clear hwant hown3 hL3 hA3 hform hb4 hb13
      go_wp2_with (at_builtin; refine wp_bytes_own _ rfl (.tmp 25) (.tmp 28) rfl w2.heap.size n _ l rfl hwant4 _ _ W W (formL x W) rfl hfb (by omega) w2.heap.size w4 (Below.refl _ _) (Nat.le_refl _) (by omega) ?_)
      intro A5 c5 w5 hwant5 hb5 hsz5
      have hown5 := hown4.below hb5 (fun k hk => by simp [Value.ownBlock] at hk; omega)
      have hL5 : LentB w5 w.heap.size l := BlkB.below hL4 hb5 (by omega)
      have hb15 := hb14.trans (hb5.mono (by omega))
      have hA5 := hA4.below (hb5.mono (by omega))
      clear hwant4 hown4 hL4 hA4 hfb hb14 hb5
      go_wp2_with fail
      refine (same_eq _ _ _ _ _ _ _ _ _ _ _ hown5.bs hwant5.bs (by unfold maxLen; omega) rfl).mono ?_
      rintro e w' ⟨rfl, ⟨nq, rfl⟩⟩
      go_wp2_with fail
      refine (kept_any A n _ _ l _ _ (hA5.drewN nq) (BlkB.drewN hL5 nq) (by omega)).mono ?_
      rintro e w' ⟨rfl, ⟨nr, rfl⟩⟩
      go_wp2_with fail
      refine (awake_any _).mono ?_
      rintro e w6 ⟨rfl, hb6⟩
      have hs5 := hb15.size
      have hbz : Below w.heap.size w w6 := by
        refine (below_drewN (below_drewN hb15 nq) nr).trans ?_
        first | exact hb6.mono hs5 | (simp only [World.drewN_drewN]; exact hb6.mono hs5)
      clear hb6
      go_wp2
      go_ret
      exact ⟨rfl, hbz⟩

/-! ### THE ROW's STEP -/
set_option maxRecDepth 100000 in
theorem lifted (os : Os) (started : os.Started) (H : Type) (enc : TypeId × Value → H) :
    ReturnsInHanded {} Try.checked os 3 .any (Rows.bitsFormsSpec.pre6 enc Try.prog Try.f3 Rows.bitsFormsRow.domain false) (Rows.bitsFormsSpec.post enc Try.prog Try.f3 false true false false) := by
  refine returnsInHanded_of_change (C := Try.checked) own started (by kernel_rfl) Try.func3
    (ChangeSpec.witness6 (enc := enc) (C := Try.checked) false ⟨#[], #[.slice none 0 0, .int .u64 0, .int .i64 0], []⟩ 8 (by kernel_rfl) (by kernel_rfl) (by kernel_rfl) (by kernel_rfl)) ?_
  intro W base args ds gs before hval0 hW hcnd _
  have hval : ∀ (j : Nat) t v, Try.f3.params[j]? = some t → args[j]? = some v → Value.okWide Try.prog W .any base t v := hval0
  have hW' := hW
  obtain ⟨p, q, hA0, hV, rfl, hfz, hnd⟩ := hW
  have hA : DataW.TrodAll enc Try.prog W 0 (fun _ => true) true Try.f3.params.toList args.toList ds p := hA0
  rw [Try.params3] at hA hval
  obtain ⟨v0, vs0, d0, ds0, p0, q0, hargs, rfl, rfl, h0, r0⟩ := trodAll_cons hA
  obtain ⟨v1, vs1, d1, ds1, p1, q1, rfl, rfl, rfl, h1, r1⟩ := trodAll_cons r0
  obtain ⟨v2, vs2, d2, ds2, p2, q2, rfl, rfl, rfl, h2, r2⟩ := trodAll_cons r1
  obtain ⟨rfl, rfl, rfl⟩ := trodAll_nil r2
  obtain rfl : args = #[v0, v1, v2] := by cases args; simp_all
  obtain ⟨rfl, rfl⟩ := trodVars_none hV
  have k0 := h0
  have lt0 : ∀ x ∈ p0, x.block < W.heap.size := by obtain ⟨m, hm⟩ := k0; exact DataW.trod_lt m _ _ _ hm
  obtain ⟨a0, len0, cap0, rfl⟩ := okWide_slice Try.underlying22 (hval 0 22 v0 rfl rfl)
  obtain ⟨z0, w0⟩ : ∃ zs, IsRow .u8 W a0 len0 cap0 zs := by
    obtain ⟨fuel, hf⟩ := h0
    rcases open_ints Try.underlying22 Try.underlying5 (by kernel_rfl) hf with ⟨hcs, _⟩ | ⟨x, l, c, zs, hcs, _, hl, hm, hz, _, hcell, hwz⟩
    · simp [Value.cells] at hcs
      obtain ⟨rfl, rfl, rfl⟩ := hcs
      exact ⟨[], .inl ⟨rfl, rfl, rfl, rfl⟩⟩
    · simp [Value.cells] at hcs
      obtain ⟨rfl, rfl, rfl⟩ := hcs
      exact ⟨zs, .inr ⟨_, rfl, hl, hm, by simpa using hz, hcell, hwz⟩⟩
  have b0 : ∀ x, a0 = some x → 0 < len0 → x.block < W.heap.size := isRow_block w0
  have k1 := h1
  have lt1 : ∀ x ∈ p1, x.block < W.heap.size := by obtain ⟨m, hm⟩ := k1; exact DataW.trod_lt m _ _ _ hm
  obtain ⟨a1, rfl, rfl, rfl, w1⟩ := open_int Try.underlying23 (hval 1 23 v1 rfl rfl) h1
  have k2 := h2
  have lt2 : ∀ x ∈ p2, x.block < W.heap.size := by obtain ⟨m, hm⟩ := k2; exact DataW.trod_lt m _ _ _ hm
  obtain ⟨a2, rfl, rfl, rfl, w2⟩ := open_int Try.underlying3 (hval 2 3 v2 rfl rfl) h2
  clear hA0 hval0
  refine (walk a0 len0 cap0 z0 a1 a2 W w0 b0 w1 w2).mono fun e W' ⟨he, bel⟩ => ?_
  subst he
  exact ⟨_, rfl, _, _, _, [], _, [], hW', trodAll_mk1 (shut_bool Try.underlying4 _), (trodAll_cons_mk (Below.trod laidOut (by kernel_rfl) (of_decide_eq_true (by kernel_rfl)) k0 bel lt0) (trodAll_cons_mk (Below.trod laidOut (by kernel_rfl) (of_decide_eq_true (by kernel_rfl)) k1 bel lt1) (trodAll_cons_mk (Below.trod laidOut (by kernel_rfl) (of_decide_eq_true (by kernel_rfl)) k2 bel lt2) trodAll_mk0))), rfl, bel.frame _, fun h => by cases h⟩

theorem over : Rows.bitsFormsRow.holds Try.pinned (OpenSpec.ofChange Rows.bitsFormsSpec) :=
  OpenClaim.holds_of_wide 3 Try.f3 rfl rfl rfl rfl rfl rfl rfl ⟨rfl, rfl, rfl, rfl, rfl⟩ rfl rfl rfl rfl rfl (by kernel_rfl) Try.func3 (by kernel_rfl)
    (of_decide_eq_true (by kernel_rfl)) (by unfold Func.isWrapper; first | (rw [if_pos (by decide +kernel)]; kernel_rfl) | (rw [if_neg (by decide +kernel)]; exact ⟨rfl, rfl⟩))
    (fun os started H enc _ => lifted os started H enc)

theorem proved : Rows.BitsFormsSaid := over
#print axioms proved
end Go.Proofs.Ytapnlclcphcbfaa.bitsForms
