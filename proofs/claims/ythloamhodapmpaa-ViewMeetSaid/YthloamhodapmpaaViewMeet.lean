/-
  The law choraguslaw08.ViewMeet answers true, and does not panic, for every argument that its row allows. Conditions: none but the row's own.
-/
import Derived.Test.YthloamhodapmpaaRows
import Derived.WalkKit
import Derived.ProofKit
import Derived.OpenShut
import Derived.ShutString
import Derived.ChangeOld
import Derived.Below
import Derived.Test.YthloamhodapmpaaOpen
import Derived.Test.YthloamhodapmpaaViewA
namespace Go.Proofs.Ythloamhodapmpaa.viewMeet
open Go.ChangeShapes Go.WideShapes Go.ChangeAt Go.RowKit
open Go.ChangeMaps (open_string shut_string)
set_option linter.unusedVariables false
set_option linter.unusedSimpArgs false

/-- Nobody of the first j is in both, and leads. -/
def NoMeet (ldr a b : List Pr) (j : Nat) : Prop := ∀ p ∈ a.take j, ¬ (p ∈ b ∧ p ∈ ldr)
theorem NoMeet.start (ldr a b : List Pr) : NoMeet ldr a b 0 := fun p h => by simp at h
theorem NoMeet.step {ldr a b : List Pr} {j : Nat} (h : NoMeet ldr a b j) (hj : j < a.length) (hn : ¬ (a[j] ∈ b ∧ a[j] ∈ ldr)) : NoMeet ldr a b (j + 1) := by
  unfold NoMeet at *
  rw [List.take_succ_eq_append_getElem hj]
  intro p hp
  rw [List.mem_append, List.mem_singleton] at hp
  exact hp.elim (h p) (fun e => e ▸ hn)
theorem NoMeet.never {ldr a b : List Pr} {j : Nat} (h : NoMeet ldr a b j) (hj : a.length ≤ j) (h1 : quoB ldr a = true) (h2 : quoB ldr b = true) : False := by
  obtain ⟨p, hp, hpa, hpb⟩ := quo_meet h1 h2
  unfold NoMeet at h
  rw [List.take_of_length_le hj] at h
  exact h p hpa ⟨hpb, hp⟩
set_option maxRecDepth 100000 in
set_option maxHeartbeats 1000000 in
theorem walk (x : Vw) (A1 : Option Addr) (n1 c1 : Nat) (l1 : List Pr) (A2 : Option Addr) (n2 c2 : Nat) (l2 : List Pr) (w : World) (h : VwIn w w.heap.size x) (ha : Ps0 w A1 n1 c1 l1) (hb : Ps0 w A2 n2 c2 l2) :
    Calls Try.prog 5 #[.agg #[.int .u64 (x.id : Int), .slice x.A x.m x.c, .slice x.B x.d x.e, .slice x.C x.f x.g], .slice A1 n1 c1, .slice A2 n2 c2] w fun e w' => e = .returned (.bool true) ∧ Below w.heap.size w w' := by
  obtain ⟨he1, hc1, hm1⟩ := ha
  obtain ⟨he2, hc2, hm2⟩ := hb
  unfold maxLen at hm1 hm2
  have hbz : Below w.heap.size w (w.alloc (.cells #[.int .u64 (x.id : Int), .slice x.A x.m x.c, .slice x.B x.d x.e, .slice x.C x.f x.g] 26)) := (Below.refl _ _).alloc (Nat.le_refl _) _
  have v0 := VAt.mk_ w x
  have cg := great8_any x w.heap.size (w.alloc (.cells #[.int .u64 (x.id : Int), .slice x.A x.m x.c, .slice x.B x.d x.e, .slice x.C x.f x.g] 26)) (h.below hbz) (by simp)
  unfold Great8P at cg
  have hlen1 := he1.len
  have HL := hide hlen1
  clear hlen1
  go_enter Try.func5, Try.ntmps5
  go_wp2_with fail
  refine cg.mono ?_
  rintro e w1 ⟨g, rfl, hsm, hb1⟩
  have hb2 := hbz.trans (hb1.mono hbz.size)
  have v1 := v0.later hb1
  clear hb1 v0 hbz cg
  cases g
  · have hsx := hsm rfl
    clear hsm
    by_cases h1 : n1 ≤ 40
    · have y1 : decide ((40 : Int) < (n1 : Int)) = false := decide_eq_false (by omega)
      by_cases h2 : n2 ≤ 40
      · have y2 : decide ((40 : Int) < (n2 : Int)) = false := decide_eq_false (by omega)
        obtain ⟨tc, htc⟩ := bool_of (MayV x.v)
        have ck := check_any x w.heap.size w1 tc (h.below hb2) hsx hb2.size htc
        obtain ⟨k0, k1, k2, k3⟩ := v1.cells
        cases tc
        · rw [show ckI false = 1 from rfl] at ck
          clear htc
          go_wp2_with fail
          refine ck.mono ?_
          rintro e w2 ⟨rfl, hb1⟩
          have hb3 := hb2.trans (hb1.mono hb2.size)
          go_wp2_with fail
          refine (awake8_any _).mono ?_
          rintro e w3 ⟨rfl, hb1⟩
          have hb4 := hb3.trans (hb1.mono hb3.size)
          go_wp2
          go_ret
          exact ⟨rfl, hb4⟩
        · rw [show ckI true = 0 from rfl] at ck
          clear htc
          go_wp2_with fail
          refine ck.mono ?_
          rintro e w2 ⟨rfl, hb1⟩
          have hb3 := hb2.trans (hb1.mono hb2.size)
          have v2 := v1.later hb1
          clear hb1 hb2 v1 k0 k1 k2 k3 ck
          have cq1 := quorum_any x A1 n1 c1 l1 w.heap.size w.heap.size w2 (h.below hb3) hsx.f hb3.size (he1.below hb3) hb3.size (by omega)
          obtain ⟨t1, ht1⟩ : ∃ t, t = quoB x.r l1 := ⟨_, rfl⟩
          rw [← ht1] at cq1
          obtain ⟨k0, k1, k2, k3⟩ := v2.cells
          cases t1
          · clear ht1
            go_wp2_with fail
            refine cq1.mono ?_
            rintro e w3 ⟨rfl, hb1⟩
            have hb4 := hb3.trans (hb1.mono hb3.size)
            go_wp2_with fail
            refine (awake8_any _).mono ?_
            rintro e w3 ⟨rfl, hb1⟩
            have hb5 := hb4.trans (hb1.mono hb4.size)
            go_wp2
            go_ret
            exact ⟨rfl, hb5⟩
          · go_wp2_with fail
            refine cq1.mono ?_
            rintro e w3 ⟨rfl, hb1⟩
            have hb4 := hb3.trans (hb1.mono hb3.size)
            have v3 := v2.later hb1
            clear hb1 hb3 v2 k0 k1 k2 k3 cq1
            have cq2 := quorum_any x A2 n2 c2 l2 w.heap.size w.heap.size w3 (h.below hb4) hsx.f hb4.size (he2.below hb4) hb4.size (by omega)
            obtain ⟨t2, ht2⟩ : ∃ t, t = quoB x.r l2 := ⟨_, rfl⟩
            rw [← ht2] at cq2
            obtain ⟨k0, k1, k2, k3⟩ := v3.cells
            cases t2
            · clear ht2 ht1
              go_wp2_with fail
              refine cq2.mono ?_
              rintro e w4 ⟨rfl, hb1⟩
              have hb5 := hb4.trans (hb1.mono hb4.size)
              go_wp2_with fail
              refine (awake8_any _).mono ?_
              rintro e w4 ⟨rfl, hb1⟩
              have hb6 := hb5.trans (hb1.mono hb5.size)
              go_wp2
              go_ret
              exact ⟨rfl, hb6⟩
            · have HQ := hide (And.intro ht1.symm ht2.symm)
              have s0 := NoMeet.start x.r l1 l2
              clear ht1 ht2
              go_wp2_with fail
              refine cq2.mono ?_
              rintro e w4 ⟨rfl, hb1⟩
              have hb5 := hb4.trans (hb1.mono hb4.size)
              have v4 := v3.later hb1
              clear hb1 hb4 v3 k0 k1 k2 k3 cq2
              go_wp2
              go_loopw [7] (fun i wr => ∃ j : Nat, j ≤ n1 ∧ i = .int .i64 j ∧ NoMeet x.r l1 l2 j ∧ VAt wr w.heap.size x ∧ Below w.heap.size w wr) (fun i _ => n1 - (intOf i).toNat)
              case atStart => exact ⟨0, Nat.zero_le _, rfl, s0, v4, hb5⟩
              case round =>
                obtain ⟨j, hj, rfl, hno, vr, hbr⟩ := hrel
                clear s0 v4 hb5
                by_cases hlt : j < n1
                · obtain ⟨ad, hl, rfl, hbl, hcc⟩ := (he1.below hbr).at_ prOk hlt
                  have hst := hno.step hl
                  obtain ⟨p, hp⟩ : ∃ p, p = l1[j] := ⟨_, rfl⟩
                  rw [← hp] at hcc hst
                  obtain ⟨d0, d1⟩ := pr_at hcc
                  have e0 := Later.cellAt d0
                  have e1 := Later.cellAt d1
                  obtain ⟨k0, k1, k2, k3⟩ := vr.cells
                  have g0 := Later.cell k0
                  have g1 := Later.cell k1
                  have g2 := Later.cell k2
                  have g3 := Later.cell k3
                  have z1 : (0 : Int) ≤ (j : Int) := by omega
                  have z2 : (j : Int) < (n1 : Int) := by omega
                  have ca := fun z : Later wr => calm_of (rat_any A2 n2 c2 l2 w.heap.size p z.w (he2.below (hbr.trans (z.below.mono hbr.size))) (Nat.le_trans hbr.size z.below.size) (Nat.le_trans hc2 hm2))
                  have cl := fun z : Later wr => calm_of (leads_any x p w.heap.size z.w (h.below (hbr.trans (z.below.mono hbr.size))) (Nat.le_trans hbr.size z.below.size))
                  have hap := atI_pos l2 p
                  have hal := atI_lt l2 p
                  clear hp hcc d0 d1 k0 k1 k2 k3 hno
                  generalize atI l2 p = r at *
                  by_cases hr : 0 ≤ r
                  · have hin := hap.1 hr
                    have y3 : decide ((0 : Int) ≤ r) = true := decide_eq_true hr
                    by_cases hd : p ∈ x.r
                    · simp only [decide_eq_true hd] at cl
                      clear hst hap hal hin hr
                      go_wp2_with fail
                      refine wp_region_calm (by kernel_rfl) (by kernel_rfl) ?_
                      repeat (go_big_quiet_step (first | (go_at_call 14; with_reducible exact ca _) | (go_at_call 18; with_reducible exact cl _)))
                      refine wpQuiet_nil ?_
                      rintro _ ⟨x9, rfl⟩
                      have hb9 := x9.below
                      generalize x9.w = w9 at hb9 ⊢
                      have hb10 := hbr.trans (hb9.mono hbr.size)
                      clear ca cl g0 g1 g2 g3 e0 e1
                      go_wp2_with fail
                      refine (awake8_any _).mono ?_
                      rintro e w3 ⟨rfl, hb1⟩
                      have hb11 := hb10.trans (hb1.mono hb10.size)
                      go_wp2
                      go_ret
                      exact ⟨rfl, hb11⟩
                    · have hst := hst (fun h => hd h.2)
                      simp only [decide_eq_false hd] at cl
                      have HS := hide hst
                      clear hst hap hal hin hr
                      go_wp2_with fail
                      refine wp_region_calm (by kernel_rfl) (by kernel_rfl) ?_
                      repeat (go_big_quiet_step (first | (go_at_call 14; with_reducible exact ca _) | (go_at_call 18; with_reducible exact cl _)))
                      refine wpQuiet_nil ?_
                      rintro _ ⟨x9, rfl⟩
                      have hb9 := x9.below
                      generalize x9.w = w9 at hb9 ⊢
                      have hb10 := hbr.trans (hb9.mono hbr.size)
                      have v10 := vr.later hb9
                      clear ca cl g0 g1 g2 g3 e0 e1 hb9
                      go_wp2
                      go_roundw
                      case rel => exact ⟨j + 1, by omega, by go_num, HS.out, v10, hb10⟩
                      case measure => simp [intOf]; omega
                  · have hst := hst (fun h => hr (hap.2 h.1))
                    have y3 : decide ((0 : Int) ≤ r) = false := decide_eq_false hr
                    have HS := hide hst
                    clear hst hap hal
                    go_wp2_with fail
                    refine wp_region_calm (by kernel_rfl) (by kernel_rfl) ?_
                    repeat (go_big_quiet_step (first | (go_at_call 14; with_reducible exact ca _) | (go_at_call 18; with_reducible exact cl _)))
                    refine wpQuiet_nil ?_
                    rintro _ ⟨x9, rfl⟩
                    have hb9 := x9.below
                    generalize x9.w = w9 at hb9 ⊢
                    have hb10 := hbr.trans (hb9.mono hbr.size)
                    have v10 := vr.later hb9
                    clear ca cl g0 g1 g2 g3 e0 e1 hb9
                    go_wp2
                    go_roundw
                    case rel => exact ⟨j + 1, by omega, by go_num, HS.out, v10, hb10⟩
                    case measure => simp [intOf]; omega
                · exact (hno.never (by rw [HL.out]; omega) HQ.out.1 HQ.out.2).elim
      · have y2 : decide ((40 : Int) < (n2 : Int)) = true := decide_eq_true (by omega)
        go_wp2_with fail
        refine (awake8_any _).mono ?_
        rintro e w3 ⟨rfl, hb1⟩
        have hb4 := hb2.trans (hb1.mono hb2.size)
        go_wp2
        go_ret
        exact ⟨rfl, hb4⟩
    · have y1 : decide ((40 : Int) < (n1 : Int)) = true := decide_eq_true (by omega)
      go_wp2_with fail
      refine (awake8_any _).mono ?_
      rintro e w3 ⟨rfl, hb1⟩
      have hb4 := hb2.trans (hb1.mono hb2.size)
      go_wp2
      go_ret
      exact ⟨rfl, hb4⟩
  · clear hsm
    go_wp2_with fail
    refine (awake8_any _).mono ?_
    rintro e w3 ⟨rfl, hb1⟩
    have hb4 := hb2.trans (hb1.mono hb2.size)
    go_wp2
    go_ret
    exact ⟨rfl, hb4⟩

/-! ### THE ROW's STEP -/
set_option maxRecDepth 100000 in
theorem lifted (os : Os) (started : os.Started) (H : Type) (enc : TypeId × Value → H) :
    ReturnsInHanded {} Try.checked os 5 .any (Rows.viewMeetSpec.pre6 enc Try.prog Try.f5 Rows.viewMeetRow.domain false) (Rows.viewMeetSpec.post enc Try.prog Try.f5 false true false false) := by
  refine returnsInHanded_of_change (C := Try.checked) own started (by kernel_rfl) Try.func5
    (ChangeSpec.witness6 (enc := enc) (C := Try.checked) false ⟨#[], #[.agg #[.int .u64 0, .slice none 0 0, .slice none 0 0, .slice none 0 0], .slice none 0 0, .slice none 0 0], []⟩ 8 (by kernel_rfl) (by kernel_rfl) (by kernel_rfl) (by kernel_rfl)) ?_
  intro W base args ds gs before hval0 hW hcnd _
  have hval : ∀ (j : Nat) t v, Try.f5.params[j]? = some t → args[j]? = some v → Value.okWide Try.prog W .any base t v := hval0
  have hW' := hW
  obtain ⟨p, q, hA0, hV, rfl, hfz, hnd⟩ := hW
  have hA : DataW.TrodAll enc Try.prog W 0 (fun _ => true) true Try.f5.params.toList args.toList ds p := hA0
  rw [Try.params5] at hA hval
  obtain ⟨v0, vs0, d0, ds0, p0, q0, hargs, rfl, rfl, h0, r0⟩ := trodAll_cons hA
  obtain ⟨v1, vs1, d1, ds1, p1, q1, rfl, rfl, rfl, h1, r1⟩ := trodAll_cons r0
  obtain ⟨v2, vs2, d2, ds2, p2, q2, rfl, rfl, rfl, h2, r2⟩ := trodAll_cons r1
  obtain ⟨rfl, rfl, rfl⟩ := trodAll_nil r2
  obtain rfl : args = #[v0, v1, v2] := by cases args; simp_all
  obtain ⟨rfl, rfl⟩ := trodVars_none hV
  have k0 := h0
  have lt0 : ∀ x ∈ p0, x.block < W.heap.size := by obtain ⟨m, hm⟩ := k0; exact DataW.trod_lt m _ _ _ hm
  obtain ⟨x0, rfl, hx0⟩ := open_view (hval 0 26 v0 rfl rfl) h0
  have k1 := h1
  have lt1 : ∀ x ∈ p1, x.block < W.heap.size := by obtain ⟨m, hm⟩ := k1; exact DataW.trod_lt m _ _ _ hm
  obtain ⟨a1, len1, cap1, rfl⟩ := okWide_slice Try.underlying23 (hval 1 23 v1 rfl rfl)
  obtain ⟨z1, w1⟩ : ∃ l, Ps0 W a1 len1 cap1 l := by
    obtain ⟨fuel, hf⟩ := h1
    exact pids_row (open_pids hf) rfl
  have k2 := h2
  have lt2 : ∀ x ∈ p2, x.block < W.heap.size := by obtain ⟨m, hm⟩ := k2; exact DataW.trod_lt m _ _ _ hm
  obtain ⟨a2, len2, cap2, rfl⟩ := okWide_slice Try.underlying23 (hval 2 23 v2 rfl rfl)
  obtain ⟨z2, w2⟩ : ∃ l, Ps0 W a2 len2 cap2 l := by
    obtain ⟨fuel, hf⟩ := h2
    exact pids_row (open_pids hf) rfl
  clear hA0 hval0
  refine (walk x0 a1 len1 cap1 z1 a2 len2 cap2 z2 W hx0 w1 w2).mono fun e W' ⟨he, bel⟩ => ?_
  subst he
  exact ⟨_, rfl, _, _, _, [], _, [], hW', trodAll_mk1 (shut_bool Try.underlying4 _), (trodAll_cons_mk (Below.trod laidOut (by kernel_rfl) (of_decide_eq_true (by kernel_rfl)) k0 bel lt0) (trodAll_cons_mk (Below.trod laidOut (by kernel_rfl) (of_decide_eq_true (by kernel_rfl)) k1 bel lt1) (trodAll_cons_mk (Below.trod laidOut (by kernel_rfl) (of_decide_eq_true (by kernel_rfl)) k2 bel lt2) trodAll_mk0))), rfl, bel.frame _, fun h => by cases h⟩

theorem over : Rows.viewMeetRow.holds Try.pinned (OpenSpec.ofChange Rows.viewMeetSpec) :=
  OpenClaim.holds_of_wide 5 Try.f5 rfl rfl rfl rfl rfl rfl rfl ⟨rfl, rfl, rfl, rfl, rfl⟩ rfl rfl rfl rfl rfl (by kernel_rfl) Try.func5 (by kernel_rfl)
    (of_decide_eq_true (by kernel_rfl)) (by unfold Func.isWrapper; first | (rw [if_pos (by decide +kernel)]; kernel_rfl) | (rw [if_neg (by decide +kernel)]; exact ⟨rfl, rfl⟩))
    (fun os started H enc _ => lifted os started H enc)

theorem proved : Rows.ViewMeetSaid := over
#print axioms proved
end Go.Proofs.Ythloamhodapmpaa.viewMeet
