/-
  The law choraguslaw01.BitsShorts answers true, and does not panic, for every argument that its row allows. Conditions: none but the row's own.
-/
import Derived.Test.YtapnlclcphcbfaaRows
import Derived.WalkKit
import Derived.ProofKit
import Derived.OpenShut
import Derived.ShutString
import Derived.ChangeOld
import Derived.Below
import Derived.Test.YtapnlclcphcbfaaOpen
import Derived.Test.YtapnlclcphcbfaaAwake1
import Derived.Test.YtapnlclcphcbfaaShort1
import Derived.Test.YtapnlclcphcbfaaLent1
namespace Go.Proofs.Ytapnlclcphcbfaa.bitsShorts
open Go.ChangeShapes Go.WideShapes Go.ChangeAt Go.RowKit
open Go.ChangeMaps (open_string shut_string)
set_option linter.unusedVariables false
set_option linter.unusedSimpArgs false

theorem getR_bd (i acc : Nat) (l : List UInt8) (hi : i ≤ 9) : (getR i acc l).2.1 ≤ 10 ∧ (getR i acc l).2.2 ≤ 5 := by
  induction l generalizing i acc with
  | nil => simp [getR]
  | cons x t ih =>
    rw [getR]
    split
    · simp
    · split
      · by_cases h9 : i = 9
        · omega
        · exact ih (i + 1) _ (by omega)
      · split
        · simp
        · simp; omega
theorem getF_bd (l : List UInt8) : (getF l).2.1 ≤ 10 ∧ (getF l).2.2 ≤ 5 := getR_bd 0 0 l (by omega)
set_option maxRecDepth 100000 in
theorem walk (A : Option Addr) (n c : Nat) (zs : List Int) (a1 : Int) (w : World) (w0 : IsRow .u8 w A n c zs) (_b : ∀ x, A = some x → 0 < n → x.block < w.heap.size) (w1 : (Lit.int .u64 a1).wf = true) :
    Calls Try.prog 6 #[.slice A n c, .int .u64 a1] w fun e w' => e = .returned (.bool true) ∧ Below w.heap.size w w' := by
  obtain ⟨l, hA, hnc, hc⟩ := isRow_bytes w0
  have b1 := wf_u64 w1
  clear w0 _b w1
  obtain ⟨x, rfl⟩ := Int.eq_ofNat_of_zero_le b1.1
  have hx : x < 18446744073709551616 := by omega
  have HX := hide hx
  clear b1 hx
  unfold maxLen at hc
  by_cases h2 : 2000 < n
  · go_enter Try.func6, Try.ntmps6
    go_wp2_with fail
    refine (awake_any _).mono ?_
    rintro e w' ⟨rfl, hb⟩
    go_wp2
    go_ret
    exact ⟨rfl, hb⟩
  · have hlen := hA.len
    have HL := hide hlen
    clear hlen
    obtain ⟨fl, hfl⟩ : ∃ k, k = (shortL x).length := ⟨_, rfl⟩
    have hfl10 : fl ≤ 10 := by rw [hfl]; exact (shortL_len x).2
    obtain ⟨r, s, t, hr⟩ : ∃ r s t, getF l = (r, s, t) := ⟨_, _, _, rfl⟩
    have hbd := getF_bd l
    rw [hr] at hbd
    simp only [] at hbd
    have HR := hide hr
    have HF := hide hfl
    clear hr hfl
    obtain ⟨hs10, ht5⟩ := hbd
    have t1 : ((r : Int) == (r : Int)) = true := by simp
    have t2 : ((s : Int) == (s : Int)) = true := by simp
    have t3 : ((t : Int) == (t : Int)) = true := by simp
    go_enter Try.func6, Try.ntmps6
    go_wp2_with fail
    refine (lent_any A n c l _ _ hA (Nat.le_refl _) (by omega)).mono ?_
    rintro e w1 ⟨rfl, hL, hb1⟩
    have hs1 := hL.lt
    go_wp2_with fail
    refine (putShort_any _ n _ l _ x _ (hL.bs HL.out (by omega)) (Nat.le_refl _) (by omega) HX.out).mono ?_
    rintro e w2 ⟨rfl, hown, hb2, hlt2⟩
    rw [← HF.out] at hown ⊢
    have hL2 : LentB w2 w.heap.size l := BlkB.later hL hb2
    have hb12 := hb1.trans (hb2.mono (by omega))
    have hA2 := hA.below hb12
    have hs2 : w1.heap.size < w2.heap.size := hlt2
    clear hL hb1 hb2 hA
    go_wp2_with fail
    refine (getShort_any _ n _ l _ _ (hL2.bs HL.out (by omega)) (by unfold maxLen; omega)).mono ?_
    rintro e w' ⟨rfl, rfl⟩
    rw [HR.out]
    go_wp2_with fail
    refine (rgetShort_any _ n _ l _ _ hA2 (by unfold maxLen; omega)).mono ?_
    rintro e w' ⟨rfl, rfl⟩
    rw [HR.out]
    go_wp2_with (at_builtin; refine wp_bytes_own _ rfl (.tmp 35) (.tmp 36) rfl w2.heap.size 0 _ [] rfl (own_lit w2 _ 0 [] _ rfl rfl (by decide) (Nat.le_refl _)) _ A n c l rfl (hA2.alloc (by omega) _) (by omega) w2.heap.size w2 ((Below.refl _ _).alloc (Nat.le_refl _) _) (Nat.le_refl _) (by simp) ?_)
    intro A3 c3 w3 hwant hb3 hsz3
    have hown3 := hown.later hb3
    have hL3 : LentB w3 w.heap.size l := BlkB.later hL2 hb3
    have hb13 := hb12.trans (hb3.mono (by omega))
    have hA3 := hA2.below (hb3.mono (by omega))
    clear hown hL2 hA2 hb12
    go_wp2_with fail
    refine (rshort_any x _ HX.out).mono ?_
    rintro e w4 ⟨A4, c4, rfl, hsh, hb4⟩
    rw [← HF.out] at hsh ⊢
    have hs3 := hb3.size
    have hs4 := hb4.size
    have hwant4 := hwant.later hb4
    have hown4 := hown3.later hb4
    have hL4 : LentB w4 w.heap.size l := BlkB.later hL3 hb4
    have hb14 := hb13.trans (hb4.mono (by omega))
    have hA4 := hA3.below (hb4.mono (by omega))
    clear hwant hown3 hL3 hA3 hb4 hb13 hb3
    go_wp2_with (at_builtin; refine wp_bytes_own _ rfl (.tmp 37) (.tmp 39) rfl w2.heap.size n _ l rfl hwant4 _ _ fl _ (shortL x) rfl hsh.bs (by omega) w2.heap.size w4 (Below.refl _ _) (Nat.le_refl _) (by omega) ?_)
    intro A5 c5 w5 hwant5 hb5 hsz5
    have hown5 := hown4.below hb5 (fun k hk => by simp [Value.ownBlock] at hk; omega)
    have hL5 : LentB w5 w.heap.size l := BlkB.below hL4 hb5 (by omega)
    have hb15 := hb14.trans (hb5.mono (by omega))
    have hA5 := hA4.below (hb5.mono (by omega))
    clear hwant4 hown4 hL4 hA4 hsh hb14 hb5
    go_wp2_with fail
    refine (same_eq _ _ _ _ _ _ _ _ _ _ _ hown5.bs hwant5.bs (by unfold maxLen; omega) rfl).mono ?_
    rintro e w' ⟨rfl, ⟨nq, rfl⟩⟩
    go_wp2_with fail
    refine (kept_any A n _ _ l _ _ (hA5.drewN nq) (BlkB.drewN hL5 nq) (by omega)).mono ?_
    rintro e w' ⟨rfl, ⟨nr, rfl⟩⟩
    go_wp2_with fail
    refine (awake_any _).mono ?_
    rintro e w6 ⟨rfl, hb6⟩
    have hs5 := hb15.size
    have hbz : Below w.heap.size w w6 := by
      refine (below_drewN (below_drewN hb15 nq) nr).trans ?_
      first | exact hb6.mono hs5 | (simp only [World.drewN_drewN]; exact hb6.mono hs5)
    clear hb6
    go_wp2
    go_ret
    exact ⟨rfl, hbz⟩

/-! ### THE ROW's STEP -/
set_option maxRecDepth 100000 in
theorem lifted (os : Os) (started : os.Started) (H : Type) (enc : TypeId × Value → H) :
    ReturnsInHanded {} Try.checked os 6 .any (Rows.bitsShortsSpec.pre6 enc Try.prog Try.f6 Rows.bitsShortsRow.domain false) (Rows.bitsShortsSpec.post enc Try.prog Try.f6 false true false false) := by
  refine returnsInHanded_of_change (C := Try.checked) own started (by kernel_rfl) Try.func6
    (ChangeSpec.witness6 (enc := enc) (C := Try.checked) false ⟨#[], #[.slice none 0 0, .int .u64 0], []⟩ 8 (by kernel_rfl) (by kernel_rfl) (by kernel_rfl) (by kernel_rfl)) ?_
  intro W base args ds gs before hval0 hW hcnd _
  have hval : ∀ (j : Nat) t v, Try.f6.params[j]? = some t → args[j]? = some v → Value.okWide Try.prog W .any base t v := hval0
  have hW' := hW
  obtain ⟨p, q, hA0, hV, rfl, hfz, hnd⟩ := hW
  have hA : DataW.TrodAll enc Try.prog W 0 (fun _ => true) true Try.f6.params.toList args.toList ds p := hA0
  rw [Try.params6] at hA hval
  obtain ⟨v0, vs0, d0, ds0, p0, q0, hargs, rfl, rfl, h0, r0⟩ := trodAll_cons hA
  obtain ⟨v1, vs1, d1, ds1, p1, q1, rfl, rfl, rfl, h1, r1⟩ := trodAll_cons r0
  obtain ⟨rfl, rfl, rfl⟩ := trodAll_nil r1
  obtain rfl : args = #[v0, v1] := by cases args; simp_all
  obtain ⟨rfl, rfl⟩ := trodVars_none hV
  have k0 := h0
  have lt0 : ∀ x ∈ p0, x.block < W.heap.size := by obtain ⟨m, hm⟩ := k0; exact DataW.trod_lt m _ _ _ hm
  obtain ⟨a0, len0, cap0, rfl⟩ := okWide_slice Try.underlying22 (hval 0 22 v0 rfl rfl)
  obtain ⟨z0, w0⟩ : ∃ zs, IsRow .u8 W a0 len0 cap0 zs := by
    obtain ⟨fuel, hf⟩ := h0
    rcases open_ints Try.underlying22 Try.underlying5 (by kernel_rfl) hf with ⟨hcs, _⟩ | ⟨x, l, c, zs, hcs, _, hl, hm, hz, _, hcell, hwz⟩
    · simp [Value.cells] at hcs
      obtain ⟨rfl, rfl, rfl⟩ := hcs
      exact ⟨[], .inl ⟨rfl, rfl, rfl, rfl⟩⟩
    · simp [Value.cells] at hcs
      obtain ⟨rfl, rfl, rfl⟩ := hcs
      exact ⟨zs, .inr ⟨_, rfl, hl, hm, by simpa using hz, hcell, hwz⟩⟩
  have b0 : ∀ x, a0 = some x → 0 < len0 → x.block < W.heap.size := isRow_block w0
  have k1 := h1
  have lt1 : ∀ x ∈ p1, x.block < W.heap.size := by obtain ⟨m, hm⟩ := k1; exact DataW.trod_lt m _ _ _ hm
  obtain ⟨a1, rfl, rfl, rfl, w1⟩ := open_int Try.underlying23 (hval 1 23 v1 rfl rfl) h1
  clear hA0 hval0
  refine (walk a0 len0 cap0 z0 a1 W w0 b0 w1).mono fun e W' ⟨he, bel⟩ => ?_
  subst he
  exact ⟨_, rfl, _, _, _, [], _, [], hW', trodAll_mk1 (shut_bool Try.underlying4 _), (trodAll_cons_mk (Below.trod laidOut (by kernel_rfl) (of_decide_eq_true (by kernel_rfl)) k0 bel lt0) (trodAll_cons_mk (Below.trod laidOut (by kernel_rfl) (of_decide_eq_true (by kernel_rfl)) k1 bel lt1) trodAll_mk0)), rfl, bel.frame _, fun h => by cases h⟩

theorem over : Rows.bitsShortsRow.holds Try.pinned (OpenSpec.ofChange Rows.bitsShortsSpec) :=
  OpenClaim.holds_of_wide 6 Try.f6 rfl rfl rfl rfl rfl rfl rfl ⟨rfl, rfl, rfl, rfl, rfl⟩ rfl rfl rfl rfl rfl (by kernel_rfl) Try.func6 (by kernel_rfl)
    (of_decide_eq_true (by kernel_rfl)) (by unfold Func.isWrapper; first | (rw [if_pos (by decide +kernel)]; kernel_rfl) | (rw [if_neg (by decide +kernel)]; exact ⟨rfl, rfl⟩))
    (fun os started H enc _ => lifted os started H enc)

theorem proved : Rows.BitsShortsSaid := over
#print axioms proved
end Go.Proofs.Ytapnlclcphcbfaa.bitsShorts
