/-
  The law choraguslaw05.MaskShares answers true, and does not panic, for every argument that its row allows. Conditions: none but the row's own.
-/
import Derived.Test.YtnaegaeicdknbaaRows
import Derived.WalkKit
import Derived.ProofKit
import Derived.OpenShut
import Derived.ShutString
import Derived.ChangeOld
import Derived.Below
import Derived.Test.YtnaegaeicdknbaaOpen
import Derived.Test.YtnaegaeicdknbaaOpenMs
import Derived.Test.YtnaegaeicdknbaaMask5
namespace Go.Proofs.Ytnaegaeicdknbaa.maskShares
open Go.ChangeShapes Go.WideShapes Go.ChangeAt Go.RowKit
open Go.ChangeMaps (open_string shut_string)
set_option linter.unusedVariables false
set_option linter.unusedSimpArgs false

theorem sh_at {w : World} {ad : Addr} {k : Nat} {s : Mk × Nat} (hc : ∀ i v, (shC s)[i]? = some v → w.cell? (ad.add (k * 3 + i)) = some v) :
    w.cell? (ad.add (k * 3)) = some (.int .u64 (s.1.a : Int)) ∧ w.cell? ⟨(ad.add (k * 3)).block, (ad.add (k * 3)).off + 1, none⟩ = some (.int .u64 (s.1.b : Int)) ∧ w.cell? ⟨(ad.add (k * 3)).block, (ad.add (k * 3)).off + 2, none⟩ = some (.int .i64 (s.2 : Int)) := by
  have h1 := hc 1 _ rfl
  have h2 := hc 2 _ rfl
  rw [← add_of_add] at h1 h2
  exact ⟨hc 0 _ rfl, h1, h2⟩
set_option maxRecDepth 100000 in
theorem walk (A : Option Addr) (n c : Nat) (l : List Mk) (w : World) (w0 : Ms0 w A n c l) :
    Calls Try.prog 6 #[.slice A n c] w fun e w' => e = .returned (.bool true) ∧ Below w.heap.size w w' := by
  obtain ⟨hA, hnc, hcm⟩ := w0
  unfold maxLen at hcm
  by_cases h3 : 100 < n
  · go_enter Try.func6, Try.ntmps6
    go_wp2_with fail
    refine (awake5_any _).mono ?_
    rintro e w' ⟨rfl, hb⟩
    go_wp2
    go_ret
    exact ⟨rfl, hb⟩
  · have hn3 : n ≤ 100 := by omega
    have hlen := hA.len
    have HL := hide hlen
    clear hlen
    have cs := shares_any A n c l w.heap.size w hA (Nat.le_refl _) (by omega)
    have hul := unlike_le l
    have hua := unlike_all l n (by rw [HL.out]; omega)
    have hun := unlike_le l n
    have hsl : (shL l).length ≤ n := by
      rw [shL_len]
      have hsub : ∀ m : List Mk, (dedM m).length ≤ m.length := by
        intro m
        induction m using snoc_ind with
        | h0 => simp [dedM]
        | hs m x ih => rw [dedM_snoc, dedK]; split <;> simp <;> omega
      have := hsub l
      rw [HL.out] at this
      exact this
    obtain ⟨q, hq⟩ : ∃ q, q = (shL l).length := ⟨_, rfl⟩
    rw [← hq] at cs hul hua hsl
    have HU := hide hul
    have HA2 := hide hua
    have HQ := hide hq
    clear hul hua hun hq
    go_enter Try.func6, Try.ntmps6
    go_wp2_with fail
    refine cs.mono ?_
    rintro e w1 ⟨A', c', rfl, hown, hb1⟩
    have hes := OwnE.es shOk hown
    have hcp := OwnE.cap hown
    unfold maxLen at hcp
    have hA1 := (hA.below hb1).more (B' := w1.heap.size) hb1.size
    clear hown cs hA
    go_wp2_with fail
    go_loopw [4, 5] (fun v4 v5 wr => ∃ i t : Nat, i ≤ n ∧ v5 = .int .i64 i ∧ v4 = .int .i64 t ∧ Hid (t = unlike l i) ∧ Below w1.heap.size w1 wr) (fun _ v5 _ => n - (intOf v5).toNat)
    case atStart => exact ⟨0, 0, Nat.zero_le _, rfl, rfl, hide (unlike_zero l).symm, Below.refl _ _⟩
    case round =>
      obtain ⟨i, t, hi, rfl, rfl, ht, hbi⟩ := hrel
      by_cases hlt : i < n
      · have hAi := hA1.below hbi
        have hli : i < l.length := by rw [HL.out]; exact hlt
        have hin0 := InTo.start l l[i] i
        have hol := unlike_old hli
        have hne := unlike_new hli
        have hnd := fun k cn f (h : InTo l l[i] i k cn f) (hk : l.length ≤ k) => h.done hk hli
        obtain ⟨x, hx⟩ : ∃ x, x = l[i] := ⟨_, rfl⟩
        have HX := hide hx
        rw [← hx] at hin0 hol hne hnd
        have HO := hide (And.intro hol (And.intro hne hnd))
        clear hol hne hnd hx
        go_wp2
        go_loopw [6, 7, 8] (fun v6 v7 v8 wk => ∃ (k cn : Nat) (f : Bool), k ≤ n ∧ v8 = .int .i64 k ∧ v6 = .int .i64 cn ∧ v7 = .bool f ∧ InTo l x i k cn f ∧ Below w1.heap.size w1 wk) (fun _ _ v8 _ => n - (intOf v8).toNat)
        case atStart => exact ⟨0, 0, true, Nat.zero_le _, rfl, rfl, rfl, hin0, hbi⟩
        case round =>
          obtain ⟨k, cn, f, hk, rfl, rfl, rfl, hto, hbk⟩ := hrel
          clear hin0
          have hcn := hto.le
          by_cases hkt : k < n
          · have hAk := hA1.below hbk
            obtain ⟨ad, hlk, rfl, _, hck⟩ := hAk.at_ mkOk hkt
            obtain ⟨ad', hli', e0, _, hci⟩ := hAk.at_ mkOk hlt
            obtain rfl : ad = ad' := by injection e0
            rw [← HX.out] at hci
            have hno := fun h => hto.no hlk h
            have hyes := fun h => hto.yes hlk h
            obtain ⟨y, hy⟩ : ∃ y, y = l[k] := ⟨_, rfl⟩
            rw [← hy] at hck hno hyes
            clear hy
            have cx := mk_at hci
            have cy := mk_at hck
            have g0 := Later.cellAt cx.1
            have g1 := Later.cellAt cx.2
            have g2 := Later.cellAt cy.1
            have g3 := Later.cellAt cy.2
            have heq := mk_eql y x
            have HB := hide hbk
            clear hci hck cx cy hAk hAi e0 hto hbk hbi
            by_cases hyx : y = x
            · rw [decide_eq_true hyx] at heq
              have hst := hyes hyx
              clear hyes hno hyx
              cases f
              · rw [Bool.false_and] at hst
                have HS := hide hst
                clear hst
                go_wp2_with fail
                refine wp_region_calm (by kernel_rfl) (by kernel_rfl) ?_
                repeat (go_big_quiet_step (fail))
                refine wpQuiet_nil ?_
                rintro _ ⟨x9, rfl⟩
                have hb9 := x9.below
                generalize x9.w = w9 at hb9 ⊢
                have hbz := HB.out.trans (hb9.mono HB.out.size)
                clear g0 g1 g2 g3 hb9 heq
                go_wp2_with fail
                go_roundw
                case rel => exact ⟨k + 1, cn + 1, false, by omega, by go_num, by go_num, rfl, HS.out, hbz⟩
                case measure => simp [intOf]; omega
              · rw [Bool.true_and] at hst
                by_cases hik : i ≤ k
                · have hd1 : decide ((i : Int) ≤ (k : Int)) = true := decide_eq_true (by omega)
                  have hd2 : decide (i ≤ k) = true := decide_eq_true hik
                  rw [hd2] at hst
                  have HS := hide hst
                  clear hst
                  go_wp2_with fail
                  refine wp_region_calm (by kernel_rfl) (by kernel_rfl) ?_
                  repeat (go_big_quiet_step (fail))
                  refine wpQuiet_nil ?_
                  rintro _ ⟨x9, rfl⟩
                  have hb9 := x9.below
                  generalize x9.w = w9 at hb9 ⊢
                  have hbz := HB.out.trans (hb9.mono HB.out.size)
                  clear g0 g1 g2 g3 hb9 heq
                  go_wp2_with fail
                  go_roundw
                  case rel => exact ⟨k + 1, cn + 1, true, by omega, by go_num, by go_num, rfl, HS.out, hbz⟩
                  case measure => simp [intOf]; omega
                · have hd1 : decide ((i : Int) ≤ (k : Int)) = false := decide_eq_false (by omega)
                  have hd2 : decide (i ≤ k) = false := decide_eq_false hik
                  rw [hd2] at hst
                  have HS := hide hst
                  clear hst
                  go_wp2_with fail
                  refine wp_region_calm (by kernel_rfl) (by kernel_rfl) ?_
                  repeat (go_big_quiet_step (fail))
                  refine wpQuiet_nil ?_
                  rintro _ ⟨x9, rfl⟩
                  have hb9 := x9.below
                  generalize x9.w = w9 at hb9 ⊢
                  have hbz := HB.out.trans (hb9.mono HB.out.size)
                  clear g0 g1 g2 g3 hb9 heq
                  go_wp2_with fail
                  go_roundw
                  case rel => exact ⟨k + 1, cn + 1, false, by omega, by go_num, by go_num, rfl, HS.out, hbz⟩
                  case measure => simp [intOf]; omega
            · rw [decide_eq_false hyx] at heq
              have hst := hno hyx
              have HS := hide hst
              clear hyes hno hyx hst
              go_wp2_with fail
              refine wp_region_calm (by kernel_rfl) (by kernel_rfl) ?_
              repeat (go_big_quiet_step (fail))
              refine wpQuiet_nil ?_
              rintro _ ⟨x9, rfl⟩
              have hb9 := x9.below
              generalize x9.w = w9 at hb9 ⊢
              have hbz := HB.out.trans (hb9.mono HB.out.size)
              clear g0 g1 g2 g3 hb9 heq
              go_wp2_with fail
              go_roundw
              case rel => exact ⟨k + 1, cn, f, by omega, by go_num, rfl, rfl, HS.out, hbz⟩
              case measure => simp [intOf]; omega
          · obtain rfl : k = n := by omega
            obtain ⟨hcnt, hff⟩ := HO.out.2.2 k cn f hto (by rw [HL.out]; omega)
            have HC := hide hcnt
            have hAk := hA1.below hbk
            have hek := hes.below hbk
            clear hto hcnt
            cases f
            · have hmem : x ∈ List.take i l := by simpa using hff
              have hnx := HO.out.1 hmem
              have HT : Hid (t = unlike l (i + 1)) := hide (ht.out.trans hnx.symm)
              have HB := hide hbk
              clear hff hmem hnx hAk hek hbk hbi hAi
              go_wp2_with fail
              go_roundw
              case rel => exact ⟨i + 1, t, by omega, by go_num, rfl, HT, HB.out⟩
              case measure => simp [intOf]; omega
            · have hmem : ¬ x ∈ List.take i l := by simpa using hff
              obtain ⟨hnx, hat⟩ := HO.out.2.1 hmem
              rw [← ht.out, ← HC.out] at hat
              have HT : Hid (t + 1 = unlike l (i + 1)) := hide (by rw [hnx, ht.out])
              have htl := (List.getElem?_eq_some_iff.1 hat).1
              have hte := (List.getElem?_eq_some_iff.1 hat).2
              have htq : t < q := by rw [HQ.out]; exact htl
              obtain ⟨ad, hli', rfl, _, hci⟩ := hAk.at_ mkOk hlt
              rw [← HX.out] at hci
              have cx := mk_at hci
              obtain ⟨ae, hle, rfl, _, hce⟩ := hek.at_ shOk htq
              rw [hte] at hce
              have cy := sh_at hce
              simp only at cy
              have g0 := Later.cellAt cx.1
              have g1 := Later.cellAt cx.2
              have g2 := Later.cellAt cy.1
              have g3 := Later.cellAt cy.2.1
              have g4 := Later.cellAt cy.2.2
              have heq := share_self x cn (by omega)
              have hd1 : decide ((q : Int) ≤ (t : Int)) = false := decide_eq_false (by omega)
              have hd2 : decide (q ≤ t) = false := decide_eq_false (by omega)
              have HB := hide hbk
              clear hff hmem hnx hat htl hte cx cy hci hce hAk hek hbk hbi hAi
              go_wp2_with fail
              refine wp_region_calm (by kernel_rfl) (by kernel_rfl) ?_
              repeat (go_big_quiet_step (fail))
              refine wpQuiet_nil ?_
              rintro _ ⟨x9, rfl⟩
              have hb9 := x9.below
              generalize x9.w = w9 at hb9 ⊢
              have hbz := HB.out.trans (hb9.mono HB.out.size)
              clear g0 g1 g2 g3 g4 hb9 heq hd1 hd2
              go_wp2_with fail
              go_roundw
              case rel => exact ⟨i + 1, t + 1, by omega, by go_num, by go_num, HT, hbz⟩
              case measure => simp [intOf]; omega
      · obtain rfl : i = n := by omega
        have htq : t = q := ht.out.trans HA2.out
        subst htq
        have heq : ((t : Int) == (t : Int)) = true := by simp
        have HB := hide (hb1.trans (hbi.mono hb1.size))
        clear hbi hA1 hes
        go_wp2_with fail
        refine (awake5_any _).mono ?_
        rintro e w' ⟨rfl, hb⟩
        have hbz := HB.out.trans (hb.mono HB.out.size)
        go_wp2
        go_ret
        exact ⟨rfl, hbz⟩

/-! ### THE ROW's STEP -/
set_option maxRecDepth 100000 in
theorem lifted (os : Os) (started : os.Started) (H : Type) (enc : TypeId × Value → H) :
    ReturnsInHanded {} Try.checked os 6 .any (Rows.maskSharesSpec.pre6 enc Try.prog Try.f6 Rows.maskSharesRow.domain false) (Rows.maskSharesSpec.post enc Try.prog Try.f6 false true false false) := by
  refine returnsInHanded_of_change (C := Try.checked) own started (by kernel_rfl) Try.func6
    (ChangeSpec.witness6 (enc := enc) (C := Try.checked) false ⟨#[], #[.slice none 0 0], []⟩ 8 (by kernel_rfl) (by kernel_rfl) (by kernel_rfl) (by kernel_rfl)) ?_
  intro W base args ds gs before hval0 hW hcnd _
  have hval : ∀ (j : Nat) t v, Try.f6.params[j]? = some t → args[j]? = some v → Value.okWide Try.prog W .any base t v := hval0
  have hW' := hW
  obtain ⟨p, q, hA0, hV, rfl, hfz, hnd⟩ := hW
  have hA : DataW.TrodAll enc Try.prog W 0 (fun _ => true) true Try.f6.params.toList args.toList ds p := hA0
  rw [Try.params6] at hA hval
  obtain ⟨v0, vs0, d0, ds0, p0, q0, hargs, rfl, rfl, h0, r0⟩ := trodAll_cons hA
  obtain ⟨rfl, rfl, rfl⟩ := trodAll_nil r0
  obtain rfl : args = #[v0] := by cases args; simp_all
  obtain ⟨rfl, rfl⟩ := trodVars_none hV
  have k0 := h0
  have lt0 : ∀ x ∈ p0, x.block < W.heap.size := by obtain ⟨m, hm⟩ := k0; exact DataW.trod_lt m _ _ _ hm
  obtain ⟨a0, len0, cap0, rfl⟩ := okWide_slice Try.underlying42 (hval 0 42 v0 rfl rfl)
  obtain ⟨z0, w0⟩ : ∃ l, Ms0 W a0 len0 cap0 l := by
    obtain ⟨fuel, hf⟩ := h0
    exact masks_row (open_masks hf) rfl
  clear hA0 hval0
  refine (walk a0 len0 cap0 z0 W w0).mono fun e W' ⟨he, bel⟩ => ?_
  subst he
  exact ⟨_, rfl, _, _, _, [], _, [], hW', trodAll_mk1 (shut_bool Try.underlying4 _), (trodAll_cons_mk (Below.trod laidOut (by kernel_rfl) (of_decide_eq_true (by kernel_rfl)) k0 bel lt0) trodAll_mk0), rfl, bel.frame _, fun h => by cases h⟩

theorem over : Rows.maskSharesRow.holds Try.pinned (OpenSpec.ofChange Rows.maskSharesSpec) :=
  OpenClaim.holds_of_wide 6 Try.f6 rfl rfl rfl rfl rfl rfl rfl ⟨rfl, rfl, rfl, rfl, rfl⟩ rfl rfl rfl rfl rfl (by kernel_rfl) Try.func6 (by kernel_rfl)
    (of_decide_eq_true (by kernel_rfl)) (by unfold Func.isWrapper; first | (rw [if_pos (by decide +kernel)]; kernel_rfl) | (rw [if_neg (by decide +kernel)]; exact ⟨rfl, rfl⟩))
    (fun os started H enc _ => lifted os started H enc)

theorem proved : Rows.MaskSharesSaid := over
#print axioms proved
end Go.Proofs.Ytnaegaeicdknbaa.maskShares
