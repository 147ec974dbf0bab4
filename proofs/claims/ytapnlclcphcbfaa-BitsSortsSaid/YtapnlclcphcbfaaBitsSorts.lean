/-
  The law choraguslaw01.BitsSorts answers true, and does not panic, for every argument that its row allows. Conditions: none but the row's own.
-/
import Derived.Test.YtapnlclcphcbfaaRows
import Derived.WalkKit
import Derived.ProofKit
import Derived.OpenShut
import Derived.ShutString
import Derived.ChangeOld
import Derived.Below
import Derived.Test.YtapnlclcphcbfaaOpen
import Derived.Test.YtapnlclcphcbfaaAwake1
import Derived.Test.YtapnlclcphcbfaaLex1
import Derived.Test.YtapnlclcphcbfaaReg1
namespace Go.Proofs.Ytapnlclcphcbfaa.bitsSorts
open Go.ChangeShapes Go.WideShapes Go.ChangeAt Go.RowKit
open Go.ChangeMaps (open_string shut_string)
set_option linter.unusedVariables false
set_option linter.unusedSimpArgs false

theorem keep3 {w2 wk w9 : World} {a b : Addr} {u v : Value} (h9 : Below wk.heap.size wk w9) (ha : a.block < w2.heap.size) (hb : b.block < w2.heap.size) (h1 : wk.cell? a = some u) (h2 : wk.cell? b = some v) (h3 : Below w2.heap.size w2 wk) :
    w9.cell? a = some u ∧ w9.cell? b = some v ∧ Below w2.heap.size w2 w9 :=
  ⟨(h9.cell (Nat.lt_of_lt_of_le ha h3.size)).trans h1, (h9.cell (Nat.lt_of_lt_of_le hb h3.size)).trans h2, h3.trans (h9.mono h3.size)⟩
set_option maxRecDepth 100000 in
set_option maxHeartbeats 1000000 in
theorem walk (a0 a1 : Int) (w : World) (w0 : (Lit.int .u64 a0).wf = true) (w1 : (Lit.int .u64 a1).wf = true) :
    Calls Try.prog 11 #[.int .u64 a0, .int .u64 a1] w fun e w' => e = .returned (.bool true) ∧ Below w.heap.size w w' := by
  have b0 := wf_u64 w0
  have b1 := wf_u64 w1
  clear w0 w1
  obtain ⟨x, rfl⟩ := Int.eq_ofNat_of_zero_le b0.1
  obtain ⟨y, rfl⟩ := Int.eq_ofNat_of_zero_le b1.1
  have hx : x < 18446744073709551616 := by omega
  have hy : y < 18446744073709551616 := by omega
  have HX := hide hx
  have HY := hide hy
  clear b0 b1
  obtain ⟨l, hl⟩ : ∃ l, l = formL x 8 := ⟨_, rfl⟩
  obtain ⟨m, hm⟩ : ∃ m, m = formL y 8 := ⟨_, rfl⟩
  have hl8 : l.length = 8 := by rw [hl]; exact formL_len _ _
  have hm8 : m.length = 8 := by rw [hm]; exact formL_len _ _
  have hlx : numL l = x := by rw [hl, numL_form]; exact Nat.mod_eq_of_lt hx
  have hmy : numL m = y := by rw [hm, numL_form]; exact Nat.mod_eq_of_lt hy
  have C1 := fun w => put_any none 0 0 [] 0 x 8 w Bs.none_ (Nat.zero_le _) (by decide) hx (by decide)
  have C2 := fun w => put_any none 0 0 [] 0 y 8 w Bs.none_ (Nat.zero_le _) (by decide) hy (by decide)
  simp only [Nat.zero_add, List.nil_append] at C1 C2
  rw [← hl] at C1
  rw [← hm] at C2
  have HC1 := hide C1
  have HC2 := hide C2
  have HL := hide hl8
  have HM := hide hm8
  have HLX := hide hlx
  have HMY := hide hmy
  clear C1 C2 hl8 hm8 hlx hmy hl hm hx hy
  go_enter Try.func11, Try.ntmps11
  go_wp2_with fail
  refine (unhide HC1 _).mono ?_
  rintro e w1 ⟨rfl, hown1, hb1, hlt1⟩
  go_wp2_with fail
  refine (unhide HC2 _).mono ?_
  rintro e w2 ⟨rfl, hown2, hb2, hlt2⟩
  have hB1 := (hown1.later hb2).bs
  have hB2 := hown2.bs
  have hb12 := hb1.trans (hb2.mono (by omega))
  have hs2 := hb12.size
  clear hown1 hown2 hb1 hb2
  go_wp2
  go_loopw [7] (fun i wr => ∃ j : Nat, j ≤ 8 ∧ i = .int .i64 j ∧ Drawn w2 wr ∧ l.take j = m.take j) (fun i _ => 8 - (intOf i).toNat)
  case atStart => exact ⟨0, Nat.zero_le _, rfl, Drawn.refl _, rfl⟩
  case round =>
    obtain ⟨j, hj, rfl, ⟨n0, rfl⟩, ht⟩ := hrel
    have HT := hide ht
    clear ht
    by_cases hlt : j < 8
    · have hltI : (j : Int) < 8 := by omega
      obtain ⟨ad, hjl, e1, hbl1, hc1⟩ := hB1.at_ hlt
      obtain ⟨ad2, hjm, e2, hbl2, hc2⟩ := hB2.at_ hlt
      obtain rfl := Option.some.inj e1
      obtain rfl := Option.some.inj e2
      clear e1 e2
      rw [Addr.add_lit, Nat.zero_add] at hc1 hc2
      unfold byteV at hc1 hc2
      obtain ⟨p, hp⟩ : ∃ p, p = l[j].toNat := ⟨_, rfl⟩
      obtain ⟨q, hq⟩ : ∃ q, q = m[j].toNat := ⟨_, rfl⟩
      rw [← hp] at hc1
      rw [← hq] at hc2
      have HP := hide hp
      have HQ := hide hq
      clear hp hq
      by_cases hb : l[j] = m[j]
      · have tb : ((p : Int) == (q : Int)) = true := by rw [HP.out, HQ.out, hb]; simp
        have HB := hide hb
        clear hb
        go_wp2_with fail
        go_quiet (fail)
        go_wp2
        go_roundw
        case rel => exact ⟨j + 1, by omega, by go_num, (by first | exact drawn_one _ _ | exact drawn_two _ _ _), by rw [take_snoc hjl, take_snoc hjm, HT.out, HB.out]⟩
        case measure => simp [intOf]; omega
      · have tb : ((p : Int) == (q : Int)) = false := by
          rw [beq_eq_false_iff_ne]; intro e; exact hb (UInt8.toNat_inj.1 (by rw [← HP.out, ← HQ.out]; omega))
        have hlex := lex_iff (by rw [HL.out, HM.out]) hjl hjm HT.out hb
        rw [HLX.out, HMY.out, ← HP.out, ← HQ.out] at hlex
        have HB := hide hb
        have HE := hide hlex
        clear hb hlex
        go_wp2_with fail
        go_quiet (fail)
        go_wp2
        have E := HE.out
        have h3 : ((x : Int) == (y : Int)) = false := by have := E.2; rw [beq_eq_false_iff_ne]; omega
        by_cases hxy : p < q
        · have h1 : (p : Int) < (q : Int) := by omega
          have h2 : (x : Int) < (y : Int) := by have := E.1.1 hxy; omega
          have h4 : ((j : Int) == 8) = false := by rw [beq_eq_false_iff_ne]; omega
          clear E hxy
          have hb3 : Below w2.heap.size w2 ((w2.drewN n0).drewN nq) := below_drewN (below_drewN (Below.refl _ _) _) _
          have hd1 : ((w2.drewN n0).drewN nq).cell? ⟨w.heap.size, j, none⟩ = some (.int .u8 (p : Int)) := hc1
          have hd2 : ((w2.drewN n0).drewN nq).cell? ⟨w1.heap.size, j, none⟩ = some (.int .u8 (q : Int)) := hc2
          generalize (w2.drewN n0).drewN nq = w3 at hb3 hd1 hd2 ⊢
          clear hc1 hc2
          go_region_held3 (fun w' => w'.cell? ⟨w.heap.size, j, none⟩ = some (.int .u8 (p : Int)) ∧ w'.cell? ⟨w1.heap.size, j, none⟩ = some (.int .u8 (q : Int)) ∧ Below w2.heap.size w2 w') (first | exact ⟨hd1, hd2, hb3.drew⟩ | exact keep3 hb9 hbl1 hbl2 hd1 hd2 hb3.drew)
            (first | (go_at_call 13; refine (awake_any _).mono ?_; rintro e w9 ⟨rfl, hb9⟩))
          go_wp2
          go_ret
          exact ⟨rfl, hb12.trans (((hb3.mono hs2).drew).trans (hb9.mono (Nat.le_trans hs2 hb3.size)))⟩
        · have h1' : (q : Int) ≤ (p : Int) := by omega
          have h2' : (y : Int) ≤ (x : Int) := by
            have h := E.1.2
            by_cases hlt : x < y
            · exact absurd (h hlt) hxy
            · omega
          have h4 : ((j : Int) == 8) = false := by rw [beq_eq_false_iff_ne]; omega
          have n1 : ¬ p < q := hxy
          have n2 : ¬ x < y := by omega
          have d1 : decide (p < q) = false := decide_eq_false n1
          have d2 : decide (x < y) = false := decide_eq_false n2
          clear E hxy
          have hb3 : Below w2.heap.size w2 ((w2.drewN n0).drewN nq) := below_drewN (below_drewN (Below.refl _ _) _) _
          have hd1 : ((w2.drewN n0).drewN nq).cell? ⟨w.heap.size, j, none⟩ = some (.int .u8 (p : Int)) := hc1
          have hd2 : ((w2.drewN n0).drewN nq).cell? ⟨w1.heap.size, j, none⟩ = some (.int .u8 (q : Int)) := hc2
          generalize (w2.drewN n0).drewN nq = w3 at hb3 hd1 hd2 ⊢
          clear hc1 hc2
          go_region_held3 (fun w' => w'.cell? ⟨w.heap.size, j, none⟩ = some (.int .u8 (p : Int)) ∧ w'.cell? ⟨w1.heap.size, j, none⟩ = some (.int .u8 (q : Int)) ∧ Below w2.heap.size w2 w') (first | exact ⟨hd1, hd2, hb3.drew⟩ | exact keep3 hb9 hbl1 hbl2 hd1 hd2 hb3.drew)
            (first | (go_at_call 13; refine (awake_any _).mono ?_; rintro e w9 ⟨rfl, hb9⟩))
          go_wp2
          go_ret
          exact ⟨rfl, hb12.trans (((hb3.mono hs2).drew).trans (hb9.mono (Nat.le_trans hs2 hb3.size)))⟩
    · have hxy : x = y := by
        have e := HT.out
        rw [List.take_of_length_le (by rw [HL.out]; omega), List.take_of_length_le (by rw [HM.out]; omega)] at e
        rw [← HLX.out, ← HMY.out, e]
      subst hxy
      have t0 : ((j : Int) == 8) = true := by rw [beq_iff_eq]; omega
      have t1 : decide (x < x) = false := by simp
      have t2 : ((x : Int) == (x : Int)) = true := by simp
      have t3 : decide ((j : Int) < 8) = false := by simp; omega
      have t5 : decide (j < 8) = false := decide_eq_false hlt
      have t4 : (8 : Int) ≤ (j : Int) := by omega
      go_wp2_with fail
      go_quiet (fail)
      go_wp2_with fail
      have hb3 : Below w2.heap.size w2 ((w2.drewN n0).drewN nq) := below_drewN (below_drewN (Below.refl _ _) _) _
      generalize (w2.drewN n0).drewN nq = w3 at hb3 ⊢
      refine wp_region_calm (by kernel_rfl) (by kernel_rfl) ?_
      repeat (go_big_quiet_step ((go_at_call 13; exact calm_of (awake_any _))))
      refine wpQuiet_nil ?_
      rintro _ ⟨x9, rfl⟩
      have hb9 := x9.below
      generalize x9.w = w9 at hb9 ⊢
      go_wp2
      go_ret
      exact ⟨rfl, hb12.trans ((hb3.mono hs2).trans (hb9.mono (Nat.le_trans hs2 hb3.size)))⟩

/-! ### THE ROW's STEP -/
set_option maxRecDepth 100000 in
theorem lifted (os : Os) (started : os.Started) (H : Type) (enc : TypeId × Value → H) :
    ReturnsInHanded {} Try.checked os 11 .any (Rows.bitsSortsSpec.pre6 enc Try.prog Try.f11 Rows.bitsSortsRow.domain false) (Rows.bitsSortsSpec.post enc Try.prog Try.f11 false true false false) := by
  refine returnsInHanded_of_change (C := Try.checked) own started (by kernel_rfl) Try.func11
    (ChangeSpec.witness6 (enc := enc) (C := Try.checked) false ⟨#[], #[.int .u64 0, .int .u64 0], []⟩ 8 (by kernel_rfl) (by kernel_rfl) (by kernel_rfl) (by kernel_rfl)) ?_
  intro W base args ds gs before hval0 hW hcnd _
  have hval : ∀ (j : Nat) t v, Try.f11.params[j]? = some t → args[j]? = some v → Value.okWide Try.prog W .any base t v := hval0
  have hW' := hW
  obtain ⟨p, q, hA0, hV, rfl, hfz, hnd⟩ := hW
  have hA : DataW.TrodAll enc Try.prog W 0 (fun _ => true) true Try.f11.params.toList args.toList ds p := hA0
  rw [Try.params11] at hA hval
  obtain ⟨v0, vs0, d0, ds0, p0, q0, hargs, rfl, rfl, h0, r0⟩ := trodAll_cons hA
  obtain ⟨v1, vs1, d1, ds1, p1, q1, rfl, rfl, rfl, h1, r1⟩ := trodAll_cons r0
  obtain ⟨rfl, rfl, rfl⟩ := trodAll_nil r1
  obtain rfl : args = #[v0, v1] := by cases args; simp_all
  obtain ⟨rfl, rfl⟩ := trodVars_none hV
  have k0 := h0
  have lt0 : ∀ x ∈ p0, x.block < W.heap.size := by obtain ⟨m, hm⟩ := k0; exact DataW.trod_lt m _ _ _ hm
  obtain ⟨a0, rfl, rfl, rfl, w0⟩ := open_int Try.underlying23 (hval 0 23 v0 rfl rfl) h0
  have k1 := h1
  have lt1 : ∀ x ∈ p1, x.block < W.heap.size := by obtain ⟨m, hm⟩ := k1; exact DataW.trod_lt m _ _ _ hm
  obtain ⟨a1, rfl, rfl, rfl, w1⟩ := open_int Try.underlying23 (hval 1 23 v1 rfl rfl) h1
  clear hA0 hval0
  refine (walk a0 a1 W w0 w1).mono fun e W' ⟨he, bel⟩ => ?_
  subst he
  exact ⟨_, rfl, _, _, _, [], _, [], hW', trodAll_mk1 (shut_bool Try.underlying4 _), (trodAll_cons_mk (Below.trod laidOut (by kernel_rfl) (of_decide_eq_true (by kernel_rfl)) k0 bel lt0) (trodAll_cons_mk (Below.trod laidOut (by kernel_rfl) (of_decide_eq_true (by kernel_rfl)) k1 bel lt1) trodAll_mk0)), rfl, bel.frame _, fun h => by cases h⟩

theorem over : Rows.bitsSortsRow.holds Try.pinned (OpenSpec.ofChange Rows.bitsSortsSpec) :=
  OpenClaim.holds_of_wide 11 Try.f11 rfl rfl rfl rfl rfl rfl rfl ⟨rfl, rfl, rfl, rfl, rfl⟩ rfl rfl rfl rfl rfl (by kernel_rfl) Try.func11 (by kernel_rfl)
    (of_decide_eq_true (by kernel_rfl)) (by unfold Func.isWrapper; first | (rw [if_pos (by decide +kernel)]; kernel_rfl) | (rw [if_neg (by decide +kernel)]; exact ⟨rfl, rfl⟩))
    (fun os started H enc _ => lifted os started H enc)

theorem proved : Rows.BitsSortsSaid := over
#print axioms proved
end Go.Proofs.Ytapnlclcphcbfaa.bitsSorts
