/-
  The law choraguslaw08.ViewAsks answers true, and does not panic, for every argument that its row allows. Conditions: none but the row's own.
-/
import Derived.Test.YthloamhodapmpaaRows
import Derived.WalkKit
import Derived.ProofKit
import Derived.OpenShut
import Derived.ShutString
import Derived.ChangeOld
import Derived.Below
import Derived.Test.YthloamhodapmpaaOpen
import Derived.Test.YthloamhodapmpaaViewF
namespace Go.Proofs.Ythloamhodapmpaa.viewAsks
open Go.ChangeShapes Go.WideShapes Go.ChangeAt Go.RowKit
open Go.ChangeMaps (open_string shut_string)
set_option linter.unusedVariables false
set_option linter.unusedSimpArgs false

theorem vhas_is (x : Vw) (p : Pr) (B : Nat) (w : World) (h : VwIn w B x) (hB : B ≤ w.heap.size) (u : Bool) (hu : decide (0 ≤ atI x.l p) = u) :
    Calls Try.prog 17 #[.agg #[.int .u64 (x.id : Int), .slice x.A x.m x.c, .slice x.B x.d x.e, .slice x.C x.f x.g], .agg #[.int .u16 (p.i : Int), .int .u32 (p.k : Int)]] w fun e w' => e = .returned (.bool u) ∧ Below w.heap.size w w' := by
  rw [← hu]
  exact vhas_any x p B w h hB
theorem leads_is (x : Vw) (p : Pr) (B : Nat) (w : World) (h : VwIn w B x) (hB : B ≤ w.heap.size) (u : Bool) (hu : decide (0 ≤ atI x.r p) = u) :
    Calls Try.prog 18 #[.agg #[.int .u64 (x.id : Int), .slice x.A x.m x.c, .slice x.B x.d x.e, .slice x.C x.f x.g], .agg #[.int .u16 (p.i : Int), .int .u32 (p.k : Int)]] w fun e w' => e = .returned (.bool u) ∧ Below w.heap.size w w' := by
  rw [← hu, decide_eq_decide.2 (atI_pos x.r p)]
  exact leads_any x p B w h hB
set_option maxRecDepth 100000 in
set_option maxHeartbeats 2000000 in
theorem walk (x : Vw) (pi pc : Nat) (A2 : Option Addr) (n2 c2 : Nat) (k : List Pr) (w : World) (h : VwIn w w.heap.size x) (hpi : pi < 65536) (hpc : pc < 4294967296) (hk : Ps0 w A2 n2 c2 k) :
    Calls Try.prog 4 #[.agg #[.int .u64 (x.id : Int), .slice x.A x.m x.c, .slice x.B x.d x.e, .slice x.C x.f x.g], .agg #[.int .u16 (pi : Int), .int .u32 (pc : Int)], .slice A2 n2 c2] w fun e w' => e = .returned (.bool true) ∧ Below w.heap.size w w' := by
  obtain ⟨p, hp1, hp2⟩ : ∃ p : Pr, p.i = pi ∧ p.k = pc := ⟨⟨pi, pc, hpi, hpc⟩, rfl, rfl⟩
  subst hp1 hp2
  clear hpi hpc
  obtain ⟨he2, hc2, hm2⟩ := hk
  have hm2' := hm2
  unfold maxLen at hm2'
  have v0 := (VAt.mk_ w x).alloc (.cells #[.int .u16 (p.i : Int), .int .u32 (p.k : Int)] 34)
  have hbz : Below w.heap.size w ((w.alloc (.cells #[.int .u64 (x.id : Int), .slice x.A x.m x.c, .slice x.B x.d x.e, .slice x.C x.f x.g] 26)).alloc (.cells #[.int .u16 (p.i : Int), .int .u32 (p.k : Int)] 34)) := ((Below.refl _ _).alloc (Nat.le_refl _) _).alloc (by simp) _
  have g0 : ((w.alloc (.cells #[.int .u64 (x.id : Int), .slice x.A x.m x.c, .slice x.B x.d x.e, .slice x.C x.f x.g] 26)).alloc (.cells #[.int .u16 (p.i : Int), .int .u32 (p.k : Int)] 34)).cell? ⟨w.heap.size + 1, 0, none⟩ = some (.int .u16 (p.i : Int)) := by go_simp
  have g1 : ((w.alloc (.cells #[.int .u64 (x.id : Int), .slice x.A x.m x.c, .slice x.B x.d x.e, .slice x.C x.f x.g] 26)).alloc (.cells #[.int .u16 (p.i : Int), .int .u32 (p.k : Int)] 34)).cell? ⟨w.heap.size + 1, 1, none⟩ = some (.int .u32 (p.k : Int)) := by go_simp
  have cg := great8_any x w.heap.size _ (h.below hbz) hbz.size
  unfold Great8P at cg
  obtain ⟨j0, j1, j2, j3⟩ := v0.cells
  go_enter Try.func4, Try.ntmps4
  go_wp2_with fail
  refine cg.mono ?_
  rintro e w1 ⟨g, rfl, hsm, hb1⟩
  have hb2 := hbz.trans (hb1.mono hbz.size)
  have v1 := v0.later hb1
  replace g0 := cellL g0 hb1
  replace g1 := cellL g1 hb1
  clear hb1 v0 hbz cg j0 j1 j2 j3
  cases g
  · have hsx := hsm rfl
    clear hsm
    by_cases h1 : n2 ≤ 40
    · have y1 : decide ((40 : Int) < (n2 : Int)) = false := decide_eq_false (by omega)
      obtain ⟨j0, j1, j2, j3⟩ := v1.cells
      have f0 := Later.cell j0
      have f1 := Later.cell j1
      have f2 := Later.cell j2
      have f3 := Later.cell j3
      have f4 := Later.cell g0
      have f5 := Later.cell g1
      obtain ⟨u1, hu1⟩ : ∃ u, decide (0 ≤ atI x.l p) = u := ⟨_, rfl⟩
      obtain ⟨u2, hu2⟩ : ∃ u, decide (0 ≤ atI x.r p) = u := ⟨_, rfl⟩
      have hB : ∀ z : Later w1, Below w.heap.size w z.w := fun z => hb2.trans (z.below.mono hb2.size)
      have n1 := fun z : Later w1 => calm_of (rank_any x p w.heap.size z.w (h.below (hB z)) (hB z).size)
      have n2' := fun z : Later w1 => calm_of (rat_any x.A x.m x.c x.l w.heap.size p z.w (h.below (hB z)).es (hB z).size (Nat.le_trans h.mc h.room))
      have n3 := fun z : Later w1 => calm_of (leaf_any x p w.heap.size z.w (h.below (hB z)) (hB z).size)
      have n4 := fun z : Later w1 => calm_of (rleaf_any x p w.heap.size z.w (h.below (hB z)) (hB z).size)
      have n5 := fun z : Later w1 => calm_of (vhas_is x p w.heap.size z.w (h.below (hB z)) (hB z).size u1 hu1)
      have n6 := fun z : Later w1 => calm_of (leads_is x p w.heap.size z.w (h.below (hB z)) (hB z).size u2 hu2)
      have n7 := fun z : Later w1 => calm_of (rat_any x.C x.f x.g x.r w.heap.size p z.w (h.below (hB z)).dr (hB z).size (Nat.le_trans h.fg h.room3))
      have n8 := fun z : Later w1 => calm_of (vmask_any x A2 n2 c2 k w.heap.size w.heap.size z.w (h.below (hB z)) hsx.m (hB z).size (he2.below (hB z)) (hB z).size (by omega))
      have n9 := fun z : Later w1 => calm_of (rmask_any x A2 n2 c2 k w.heap.size w.heap.size z.w (h.below (hB z)) hsx.m (hB z).size (he2.below (hB z)) (hB z).size (by omega))
      have n10 := fun z : Later w1 => calm_of (quorum_any x A2 n2 c2 k w.heap.size w.heap.size z.w (h.below (hB z)) hsx.f (hB z).size (he2.below (hB z)) (hB z).size (by omega))
      have n11 := fun z : Later w1 => calm_of (rquorum8_any x A2 n2 c2 k w.heap.size w.heap.size z.w (h.below (hB z)) hsx.f (hB z).size (he2.below (hB z)) (hB z).size (Nat.le_trans hc2 hm2))
      have n12 := fun z : Later w1 => calm_of (awake8_any z.w)
      have hq1 := mask_self (rkA x.l k) (rkB x.l k) (rkA_lt _ _) (rkB_lt _ _)
      generalize atI x.l p = r1 at *
      generalize atI x.r p = r2 at *
      generalize lfI x.v.lvs p = r3 at *
      generalize rkA x.l k = a1 at *
      generalize rkB x.l k = a2 at *
      generalize quoB x.r k = u3 at *
      have t1 : (u1 == u1) = true := by cases u1 <;> rfl
      have t2 : (u2 == u2) = true := by cases u2 <;> rfl
      have t3 : (u3 == u3) = true := by cases u3 <;> rfl
      clear hB hsx h he2 v1 j0 j1 j2 j3 g0 g1 hm2 hm2'
      go_wp2_with fail
      refine wp_region_calm (by kernel_rfl) (by kernel_rfl) ?_
      repeat (go_big_quiet_step (first | (go_at_call 13; with_reducible exact n1 _) | (go_at_call 14; with_reducible exact n2' _) | (go_at_call 14; with_reducible exact n7 _) | (go_at_call 15; with_reducible exact n3 _) | (go_at_call 16; with_reducible exact n4 _) | (go_at_call 17; with_reducible exact n5 _) | (go_at_call 18; with_reducible exact n6 _) | (go_at_call 19; with_reducible exact n8 _) | (go_at_call 20; with_reducible exact n9 _) | (go_at_call 21; with_reducible exact n10 _) | (go_at_call 22; with_reducible exact n11 _) | (go_at_call 10; with_reducible exact n12 _)))
      refine wpQuiet_nil ?_
      rintro _ ⟨x9, rfl⟩
      have hb9 := x9.below
      generalize x9.w = w9 at hb9 ⊢
      have hb10 := hb2.trans (hb9.mono hb2.size)
      go_wp2
      go_ret
      exact ⟨rfl, hb10⟩
    · have y1 : decide ((40 : Int) < (n2 : Int)) = true := decide_eq_true (by omega)
      go_wp2_with fail
      refine (awake8_any _).mono ?_
      rintro e w3 ⟨rfl, hb1⟩
      have hb4 := hb2.trans (hb1.mono hb2.size)
      go_wp2
      go_ret
      exact ⟨rfl, hb4⟩
  · clear hsm
    go_wp2_with fail
    refine (awake8_any _).mono ?_
    rintro e w3 ⟨rfl, hb1⟩
    have hb4 := hb2.trans (hb1.mono hb2.size)
    go_wp2
    go_ret
    exact ⟨rfl, hb4⟩

/-! ### THE ROW's STEP -/
set_option maxRecDepth 100000 in
theorem lifted (os : Os) (started : os.Started) (H : Type) (enc : TypeId × Value → H) :
    ReturnsInHanded {} Try.checked os 4 .any (Rows.viewAsksSpec.pre6 enc Try.prog Try.f4 Rows.viewAsksRow.domain false) (Rows.viewAsksSpec.post enc Try.prog Try.f4 false true false false) := by
  refine returnsInHanded_of_change (C := Try.checked) own started (by kernel_rfl) Try.func4
    (ChangeSpec.witness6 (enc := enc) (C := Try.checked) false ⟨#[], #[.agg #[.int .u64 0, .slice none 0 0, .slice none 0 0, .slice none 0 0], .agg #[.int .u16 0, .int .u32 0], .slice none 0 0], []⟩ 8 (by kernel_rfl) (by kernel_rfl) (by kernel_rfl) (by kernel_rfl)) ?_
  intro W base args ds gs before hval0 hW hcnd _
  have hval : ∀ (j : Nat) t v, Try.f4.params[j]? = some t → args[j]? = some v → Value.okWide Try.prog W .any base t v := hval0
  have hW' := hW
  obtain ⟨p, q, hA0, hV, rfl, hfz, hnd⟩ := hW
  have hA : DataW.TrodAll enc Try.prog W 0 (fun _ => true) true Try.f4.params.toList args.toList ds p := hA0
  rw [Try.params4] at hA hval
  obtain ⟨v0, vs0, d0, ds0, p0, q0, hargs, rfl, rfl, h0, r0⟩ := trodAll_cons hA
  obtain ⟨v1, vs1, d1, ds1, p1, q1, rfl, rfl, rfl, h1, r1⟩ := trodAll_cons r0
  obtain ⟨v2, vs2, d2, ds2, p2, q2, rfl, rfl, rfl, h2, r2⟩ := trodAll_cons r1
  obtain ⟨rfl, rfl, rfl⟩ := trodAll_nil r2
  obtain rfl : args = #[v0, v1, v2] := by cases args; simp_all
  obtain ⟨rfl, rfl⟩ := trodVars_none hV
  have k0 := h0
  have lt0 : ∀ x ∈ p0, x.block < W.heap.size := by obtain ⟨m, hm⟩ := k0; exact DataW.trod_lt m _ _ _ hm
  obtain ⟨x0, rfl, hx0⟩ := open_view (hval 0 26 v0 rfl rfl) h0
  have k1 := h1
  have lt1 : ∀ x ∈ p1, x.block < W.heap.size := by obtain ⟨m, hm⟩ := k1; exact DataW.trod_lt m _ _ _ hm
  obtain ⟨i1, c1, rfl, hi1, hc1⟩ := open_pid (hval 1 34 v1 rfl rfl) h1
  have k2 := h2
  have lt2 : ∀ x ∈ p2, x.block < W.heap.size := by obtain ⟨m, hm⟩ := k2; exact DataW.trod_lt m _ _ _ hm
  obtain ⟨a2, len2, cap2, rfl⟩ := okWide_slice Try.underlying23 (hval 2 23 v2 rfl rfl)
  obtain ⟨z2, w2⟩ : ∃ l, Ps0 W a2 len2 cap2 l := by
    obtain ⟨fuel, hf⟩ := h2
    exact pids_row (open_pids hf) rfl
  clear hA0 hval0
  refine (walk x0 i1 c1 a2 len2 cap2 z2 W hx0 hi1 hc1 w2).mono fun e W' ⟨he, bel⟩ => ?_
  subst he
  exact ⟨_, rfl, _, _, _, [], _, [], hW', trodAll_mk1 (shut_bool Try.underlying4 _), (trodAll_cons_mk (Below.trod laidOut (by kernel_rfl) (of_decide_eq_true (by kernel_rfl)) k0 bel lt0) (trodAll_cons_mk (Below.trod laidOut (by kernel_rfl) (of_decide_eq_true (by kernel_rfl)) k1 bel lt1) (trodAll_cons_mk (Below.trod laidOut (by kernel_rfl) (of_decide_eq_true (by kernel_rfl)) k2 bel lt2) trodAll_mk0))), rfl, bel.frame _, fun h => by cases h⟩

theorem over : Rows.viewAsksRow.holds Try.pinned (OpenSpec.ofChange Rows.viewAsksSpec) :=
  OpenClaim.holds_of_wide 4 Try.f4 rfl rfl rfl rfl rfl rfl rfl ⟨rfl, rfl, rfl, rfl, rfl⟩ rfl rfl rfl rfl rfl (by kernel_rfl) Try.func4 (by kernel_rfl)
    (of_decide_eq_true (by kernel_rfl)) (by unfold Func.isWrapper; first | (rw [if_pos (by decide +kernel)]; kernel_rfl) | (rw [if_neg (by decide +kernel)]; exact ⟨rfl, rfl⟩))
    (fun os started H enc _ => lifted os started H enc)

theorem proved : Rows.ViewAsksSaid := over
#print axioms proved
end Go.Proofs.Ythloamhodapmpaa.viewAsks
