/-
  The law choraguslaw02.CrcSeals answers true, and does not panic, for every argument that its row allows. Conditions: none but the row's own.
-/
import Derived.Test.YtcfindjjcghhkaaRows
import Derived.WalkKit
import Derived.ProofKit
import Derived.OpenShut
import Derived.ShutString
import Derived.ChangeOld
import Derived.Below
import Derived.Test.YtcfindjjcghhkaaOpen
import Derived.Test.YtcfindjjcghhkaaCrc2
namespace Go.Proofs.Ytcfindjjcghhkaa.crcSeals
open Go.ChangeShapes Go.WideShapes Go.ChangeAt Go.RowKit
open Go.ChangeMaps (open_string shut_string)
set_option linter.unusedVariables false
set_option linter.unusedSimpArgs false

set_option maxRecDepth 100000 in
theorem walk (A : Option Addr) (n c : Nat) (zs : List Int) (w : World) (w0 : IsRow .u8 w A n c zs) (_b : ∀ x, A = some x → 0 < n → x.block < w.heap.size) :
    Calls Try.prog 4 #[.slice A n c] w fun e w' => e = .returned (.bool true) ∧ Below w.heap.size w w' := by
  obtain ⟨l, hA, hnc, hc⟩ := isRow_bytes w0
  clear w0 _b
  unfold maxLen at hc
  by_cases h2 : 1000 < n
  · go_enter Try.func4, Try.ntmps4
    go_wp2_with fail
    refine (awake2_any _).mono ?_
    rintro e w' ⟨rfl, hb⟩
    go_wp2
    go_ret
    exact ⟨rfl, hb⟩
  · have hn : n ≤ 1000 := by omega
    have HL := hide hA.len
    clear h2
    by_cases h4 : n < 4
    · go_enter Try.func4, Try.ntmps4
      go_wp2_with fail
      refine (lent_any A n c l _ _ hA (Nat.le_refl _) (by omega)).mono ?_
      rintro e w1 ⟨rfl, hL, hb1⟩
      have hs1 := hL.lt
      have hI := hL.bs HL.out (by omega)
      go_wp2_with fail
      refine (seal_any _ n _ l _ _ hI (Nat.le_refl _) (by omega)).mono ?_
      rintro e w2 ⟨A2, c2, rfl, hown, hb2⟩
      have hL2 : LentB w2 w.heap.size l := BlkB.later hL hb2
      have hb12 := hb1.trans (hb2.mono (by omega))
      have hs2 := hb12.size
      have hlt2 := hL2.lt
      have hI2 := hL2.bs HL.out (by omega)
      have hA2 := hA.below hb12
      clear hI hb1 hb2 hL
      go_wp2_with fail
      refine (open_short _ n _ _ h4).mono ?_
      rintro e w' ⟨rfl, rfl⟩
      go_wp2_with fail
      refine (ropen_short A n c _ h4).mono ?_
      rintro e w' ⟨rfl, rfl⟩
      have hL4 := hL2
      have hA4 := hA2
      have hown4 := hown
      have hb14 := hb12
      have hs4 := hs2
      clear hL2 hA2 hown hb12 hs2
      go_wp2_with fail
      refine (rseal_any A n c l _ _ hA4 (by omega) (by omega)).mono ?_
      rintro e w5 ⟨A5, c5, rfl, hown5, hb5⟩
      have hb15 := hb14.trans (hb5.mono hs4)
      have hs5 := hb15.size
      have hL5 : LentB w5 w.heap.size l := BlkB.later hL4 hb5
      have hA5 := hA4.below (hb5.mono hs4)
      have hownA := hown4.later hb5
      clear hown4 hL4 hA4 hb5
      go_wp2_with fail
      refine (same_eq _ _ _ _ _ _ _ _ _ _ _ hownA.bs hown5.bs (by unfold maxLen; omega) rfl).mono ?_
      rintro e w6 ⟨rfl, hd6⟩
      have hL6 : LentB w6 w.heap.size l := BlkB.below hL5 (drawn_below hd6) hL5.lt
      have hA6 := hA5.below (drawn_below hd6)
      have hb16 := hb15.trans (drawn_below hd6)
      clear hL5 hA5 hb15
      go_wp2_with fail
      refine (same_eq _ _ _ _ _ _ [] [] 0 0 _ Bs.none_ Bs.none_ (by decide) rfl).mono ?_
      rintro e w7 ⟨rfl, hd7⟩
      have hL7 : LentB w7 w.heap.size l := BlkB.below hL6 (drawn_below hd7) hL6.lt
      have hA7 := hA6.below (drawn_below hd7)
      have hb17 := hb16.trans (drawn_below hd7)
      clear hL6 hA6 hb16
      go_wp2_with fail
      refine (kept_any A n _ _ l _ _ hA7 hL7 (by omega)).mono ?_
      rintro e w8 ⟨rfl, hd8⟩
      have hb18 := hb17.trans (drawn_below hd8)
      have hs8 := hb18.size
      clear hL7 hA7 hb17
      go_wp2_with fail
      refine (awake2_any _).mono ?_
      rintro e w9 ⟨rfl, hb9⟩
      go_wp2
      go_ret
      exact ⟨rfl, hb18.trans (hb9.mono hs8)⟩
    · obtain ⟨m, hm⟩ : ∃ m, n = m + 4 := ⟨n - 4, by omega⟩
      have HM := hide hm
      have hmn : m ≤ 1000 := by omega
      clear hm h4
      by_cases hs : numL (l.drop m) = sumN (l.take m)
      · have HS := hide hs
        clear hs
        go_enter Try.func4, Try.ntmps4
        go_wp2_with fail
        refine (lent_any A n c l _ _ hA (Nat.le_refl _) (by omega)).mono ?_
        rintro e w1 ⟨rfl, hL, hb1⟩
        have hs1 := hL.lt
        have hI := hL.bs HL.out (by omega)
        go_wp2_with fail
        refine (seal_any _ n _ l _ _ hI (Nat.le_refl _) (by omega)).mono ?_
        rintro e w2 ⟨A2, c2, rfl, hown, hb2⟩
        have hL2 : LentB w2 w.heap.size l := BlkB.later hL hb2
        have hb12 := hb1.trans (hb2.mono (by omega))
        have hs2 := hb12.size
        have hlt2 := hL2.lt
        have hI2 := hL2.bs HL.out (by omega)
        have hA2 := hA.below hb12
        clear hI hb1 hb2 hL
        go_wp2_with fail
        refine (open_yes _ m n _ l _ _ hI2 (Nat.le_refl _) HM.out (by omega) (by omega) HS.out).mono ?_
        rintro e w3 ⟨A3, c3, rfl, hx3, hb3⟩
        have hL3 : LentB w3 w.heap.size l := BlkB.later hL2 hb3
        have hb13 := hb12.trans (hb3.mono hs2)
        have hs3 := hb13.size
        have hown3 := hown.later hb3
        have hA3 := hA2.below (hb3.mono hs2)
        clear hL2 hA2 hown hb12 hs2 hb3
        go_wp2_with fail
        refine (ropen_yes A m n c l _ _ hA3 (by omega) HM.out hnc (by omega) HS.out).mono ?_
        rintro e w4 ⟨A4, c4, rfl, hx4, hb4⟩
        have hL4 : LentB w4 w.heap.size l := BlkB.later hL3 hb4
        have hA4 := hA3.below (hb4.mono hs3)
        have hb14 := hb13.trans (hb4.mono hs3)
        have hown4 := hown3.later hb4
        have hx3' := hx3.later hb4
        have hs4 := hb14.size
        clear hL3 hA3 hown3 hb13 hs3 hb4 hx3
        go_wp2_with fail
        refine (rseal_any A n c l _ _ hA4 (by omega) (by omega)).mono ?_
        rintro e w5 ⟨A5, c5, rfl, hown5, hb5⟩
        have hb15 := hb14.trans (hb5.mono hs4)
        have hs5 := hb15.size
        have hL5 : LentB w5 w.heap.size l := BlkB.later hL4 hb5
        have hA5 := hA4.below (hb5.mono hs4)
        have hownA := hown4.later hb5
        have hx3'' := hx3'.later hb5
        have hx4' := hx4.later hb5
        clear hx3' hx4
        clear hown4 hL4 hA4 hb5
        go_wp2_with fail
        refine (same_eq _ _ _ _ _ _ _ _ _ _ _ hownA.bs hown5.bs (by unfold maxLen; omega) rfl).mono ?_
        rintro e w6 ⟨rfl, hd6⟩
        have hL6 : LentB w6 w.heap.size l := BlkB.below hL5 (drawn_below hd6) hL5.lt
        have hA6 := hA5.below (drawn_below hd6)
        have hb16 := hb15.trans (drawn_below hd6)
        have hx36 := hx3''.later (drawn_below hd6)
        have hx46 := hx4'.later (drawn_below hd6)
        clear hx3'' hx4'
        clear hL5 hA5 hb15
        go_wp2_with fail
        refine (same_eq _ _ _ _ _ _ _ _ _ _ _ hx36.bs hx46.bs (by unfold maxLen; omega) rfl).mono ?_
        rintro e w7 ⟨rfl, hd7⟩
        have hL7 : LentB w7 w.heap.size l := BlkB.below hL6 (drawn_below hd7) hL6.lt
        have hA7 := hA6.below (drawn_below hd7)
        have hb17 := hb16.trans (drawn_below hd7)
        clear hL6 hA6 hb16
        go_wp2_with fail
        refine (kept_any A n _ _ l _ _ hA7 hL7 (by omega)).mono ?_
        rintro e w8 ⟨rfl, hd8⟩
        have hb18 := hb17.trans (drawn_below hd8)
        have hs8 := hb18.size
        clear hL7 hA7 hb17
        go_wp2_with fail
        refine (awake2_any _).mono ?_
        rintro e w9 ⟨rfl, hb9⟩
        go_wp2
        go_ret
        exact ⟨rfl, hb18.trans (hb9.mono hs8)⟩
      · have HS := hide hs
        clear hs
        go_enter Try.func4, Try.ntmps4
        go_wp2_with fail
        refine (lent_any A n c l _ _ hA (Nat.le_refl _) (by omega)).mono ?_
        rintro e w1 ⟨rfl, hL, hb1⟩
        have hs1 := hL.lt
        have hI := hL.bs HL.out (by omega)
        go_wp2_with fail
        refine (seal_any _ n _ l _ _ hI (Nat.le_refl _) (by omega)).mono ?_
        rintro e w2 ⟨A2, c2, rfl, hown, hb2⟩
        have hL2 : LentB w2 w.heap.size l := BlkB.later hL hb2
        have hb12 := hb1.trans (hb2.mono (by omega))
        have hs2 := hb12.size
        have hlt2 := hL2.lt
        have hI2 := hL2.bs HL.out (by omega)
        have hA2 := hA.below hb12
        clear hI hb1 hb2 hL
        go_wp2_with fail
        refine (open_no _ m n _ l _ _ hI2 (Nat.le_refl _) HM.out (by omega) (by omega) HS.out).mono ?_
        rintro e w3 ⟨rfl, hb3⟩
        have hL3 : LentB w3 w.heap.size l := BlkB.later hL2 hb3
        have hb13 := hb12.trans (hb3.mono hs2)
        have hs3 := hb13.size
        have hown3 := hown.later hb3
        have hA3 := hA2.below (hb3.mono hs2)
        clear hL2 hA2 hown hb12 hs2 hb3
        go_wp2_with fail
        refine (ropen_no A m n c l _ _ hA3 HM.out hnc (by omega) HS.out).mono ?_
        rintro e w4 ⟨rfl, hd⟩
        have hL4 : LentB w4 w.heap.size l := BlkB.below hL3 (drawn_below hd) hL3.lt
        have hA4 := hA3.below (drawn_below hd)
        have hb14 := hb13.trans (drawn_below hd)
        have hown4 := hown3.later (drawn_below hd)
        have hs4 := hb14.size
        clear hL3 hA3 hown3 hb13 hs3 hd
        go_wp2_with fail
        refine (rseal_any A n c l _ _ hA4 (by omega) (by omega)).mono ?_
        rintro e w5 ⟨A5, c5, rfl, hown5, hb5⟩
        have hb15 := hb14.trans (hb5.mono hs4)
        have hs5 := hb15.size
        have hL5 : LentB w5 w.heap.size l := BlkB.later hL4 hb5
        have hA5 := hA4.below (hb5.mono hs4)
        have hownA := hown4.later hb5
        clear hown4 hL4 hA4 hb5
        go_wp2_with fail
        refine (same_eq _ _ _ _ _ _ _ _ _ _ _ hownA.bs hown5.bs (by unfold maxLen; omega) rfl).mono ?_
        rintro e w6 ⟨rfl, hd6⟩
        have hL6 : LentB w6 w.heap.size l := BlkB.below hL5 (drawn_below hd6) hL5.lt
        have hA6 := hA5.below (drawn_below hd6)
        have hb16 := hb15.trans (drawn_below hd6)
        clear hL5 hA5 hb15
        go_wp2_with fail
        refine (same_eq _ _ _ _ _ _ [] [] 0 0 _ Bs.none_ Bs.none_ (by decide) rfl).mono ?_
        rintro e w7 ⟨rfl, hd7⟩
        have hL7 : LentB w7 w.heap.size l := BlkB.below hL6 (drawn_below hd7) hL6.lt
        have hA7 := hA6.below (drawn_below hd7)
        have hb17 := hb16.trans (drawn_below hd7)
        clear hL6 hA6 hb16
        go_wp2_with fail
        refine (kept_any A n _ _ l _ _ hA7 hL7 (by omega)).mono ?_
        rintro e w8 ⟨rfl, hd8⟩
        have hb18 := hb17.trans (drawn_below hd8)
        have hs8 := hb18.size
        clear hL7 hA7 hb17
        go_wp2_with fail
        refine (awake2_any _).mono ?_
        rintro e w9 ⟨rfl, hb9⟩
        go_wp2
        go_ret
        exact ⟨rfl, hb18.trans (hb9.mono hs8)⟩

/-! ### THE ROW's STEP -/
set_option maxRecDepth 100000 in
theorem lifted (os : Os) (started : os.Started) (H : Type) (enc : TypeId × Value → H) :
    ReturnsInHanded {} Try.checked os 4 .any (Rows.crcSealsSpec.pre6 enc Try.prog Try.f4 Rows.crcSealsRow.domain false) (Rows.crcSealsSpec.post enc Try.prog Try.f4 false true false false) := by
  refine returnsInHanded_of_change (C := Try.checked) own started (by kernel_rfl) Try.func4
    (ChangeSpec.witness6 (enc := enc) (C := Try.checked) false ⟨#[], #[.slice none 0 0], []⟩ 8 (by kernel_rfl) (by kernel_rfl) (by kernel_rfl) (by kernel_rfl)) ?_
  intro W base args ds gs before hval0 hW hcnd _
  have hval : ∀ (j : Nat) t v, Try.f4.params[j]? = some t → args[j]? = some v → Value.okWide Try.prog W .any base t v := hval0
  have hW' := hW
  obtain ⟨p, q, hA0, hV, rfl, hfz, hnd⟩ := hW
  have hA : DataW.TrodAll enc Try.prog W 0 (fun _ => true) true Try.f4.params.toList args.toList ds p := hA0
  rw [Try.params4] at hA hval
  obtain ⟨v0, vs0, d0, ds0, p0, q0, hargs, rfl, rfl, h0, r0⟩ := trodAll_cons hA
  obtain ⟨rfl, rfl, rfl⟩ := trodAll_nil r0
  obtain rfl : args = #[v0] := by cases args; simp_all
  obtain ⟨rfl, rfl⟩ := trodVars_none hV
  have k0 := h0
  have lt0 : ∀ x ∈ p0, x.block < W.heap.size := by obtain ⟨m, hm⟩ := k0; exact DataW.trod_lt m _ _ _ hm
  obtain ⟨a0, len0, cap0, rfl⟩ := okWide_slice Try.underlying22 (hval 0 22 v0 rfl rfl)
  obtain ⟨z0, w0⟩ : ∃ zs, IsRow .u8 W a0 len0 cap0 zs := by
    obtain ⟨fuel, hf⟩ := h0
    rcases open_ints Try.underlying22 Try.underlying5 (by kernel_rfl) hf with ⟨hcs, _⟩ | ⟨x, l, c, zs, hcs, _, hl, hm, hz, _, hcell, hwz⟩
    · simp [Value.cells] at hcs
      obtain ⟨rfl, rfl, rfl⟩ := hcs
      exact ⟨[], .inl ⟨rfl, rfl, rfl, rfl⟩⟩
    · simp [Value.cells] at hcs
      obtain ⟨rfl, rfl, rfl⟩ := hcs
      exact ⟨zs, .inr ⟨_, rfl, hl, hm, by simpa using hz, hcell, hwz⟩⟩
  have b0 : ∀ x, a0 = some x → 0 < len0 → x.block < W.heap.size := isRow_block w0
  clear hA0 hval0
  refine (walk a0 len0 cap0 z0 W w0 b0).mono fun e W' ⟨he, bel⟩ => ?_
  subst he
  exact ⟨_, rfl, _, _, _, [], _, [], hW', trodAll_mk1 (shut_bool Try.underlying4 _), (trodAll_cons_mk (Below.trod laidOut (by kernel_rfl) (of_decide_eq_true (by kernel_rfl)) k0 bel lt0) trodAll_mk0), rfl, bel.frame _, fun h => by cases h⟩

theorem over : Rows.crcSealsRow.holds Try.pinned (OpenSpec.ofChange Rows.crcSealsSpec) :=
  OpenClaim.holds_of_wide 4 Try.f4 rfl rfl rfl rfl rfl rfl rfl ⟨rfl, rfl, rfl, rfl, rfl⟩ rfl rfl rfl rfl rfl (by kernel_rfl) Try.func4 (by kernel_rfl)
    (of_decide_eq_true (by kernel_rfl)) (by unfold Func.isWrapper; first | (rw [if_pos (by decide +kernel)]; kernel_rfl) | (rw [if_neg (by decide +kernel)]; exact ⟨rfl, rfl⟩))
    (fun os started H enc _ => lifted os started H enc)

theorem proved : Rows.CrcSealsSaid := over
#print axioms proved
end Go.Proofs.Ytcfindjjcghhkaa.crcSeals
