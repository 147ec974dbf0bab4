/-
  The law choraguslaw09.CmdApart answers true, and does not panic, for every argument that its row allows. Conditions: none but the row's own.
-/
import Derived.Test.YtdmihbicpjmgjaaRows
import Derived.WalkKit
import Derived.ProofKit
import Derived.OpenShut
import Derived.ShutString
import Derived.ChangeOld
import Derived.Below
import Derived.Test.YtdmihbicpjmgjaaQOpenF
import Derived.Test.YtdmihbicpjmgjaaQCmd5
namespace Go.Proofs.Ytdmihbicpjmgjaa.cmdApart
open Go.ChangeShapes Go.WideShapes Go.ChangeAt Go.RowKit
open Go.ChangeMaps (open_string shut_string)
set_option linter.unusedVariables false
set_option linter.unusedSimpArgs false

theorem not_front {a b : Cm} (ha : MayC a) (hb : MayC b) (hne : a ≠ b) : ¬ ((formC a).length ≤ (formC b).length ∧ formC a = (formC b).take (formC a).length) := fun ⟨h1, h2⟩ => by
  have e : formC a ++ (formC b).drop (formC a).length = formC b ++ [] := by
    rw [List.append_nil]
    conv => lhs; arg 1; rw [h2]
    exact List.take_append_drop _ _
  exact hne (form_cancel ha hb e).1
set_option maxRecDepth 100000 in
set_option maxHeartbeats 4000000 in
theorem walk (x y : Cx) (w : World) (h : CxIn w w.heap.size x) (h' : CxIn w w.heap.size y) :
    Calls Try.prog 5 #[.agg #[.int .i64 x.kind, .int .u16 (x.p.i : Int), .int .u32 (x.p.k : Int), .int .u64 (x.num : Int), .int .u64 (x.vn : Int), .slice x.A x.n x.c, .int .u64 (x.x.id : Int), .slice x.x.A x.x.m x.x.c, .slice x.x.B x.x.d x.x.e, .slice x.x.C x.x.f x.x.g], .agg #[.int .i64 y.kind, .int .u16 (y.p.i : Int), .int .u32 (y.p.k : Int), .int .u64 (y.num : Int), .int .u64 (y.vn : Int), .slice y.A y.n y.c, .int .u64 (y.x.id : Int), .slice y.x.A y.x.m y.x.c, .slice y.x.B y.x.d y.x.e, .slice y.x.C y.x.f y.x.g]] w fun e w' => e = .returned (.bool true) ∧ Below w.heap.size w w' := by
  have hbz : Below w.heap.size w ((w.alloc (.cells #[.int .i64 x.kind, .int .u16 (x.p.i : Int), .int .u32 (x.p.k : Int), .int .u64 (x.num : Int), .int .u64 (x.vn : Int), .slice x.A x.n x.c, .int .u64 (x.x.id : Int), .slice x.x.A x.x.m x.x.c, .slice x.x.B x.x.d x.x.e, .slice x.x.C x.x.f x.x.g] 33)).alloc (.cells #[.int .i64 y.kind, .int .u16 (y.p.i : Int), .int .u32 (y.p.k : Int), .int .u64 (y.num : Int), .int .u64 (y.vn : Int), .slice y.A y.n y.c, .int .u64 (y.x.id : Int), .slice y.x.A y.x.m y.x.c, .slice y.x.B y.x.d y.x.e, .slice y.x.C y.x.f y.x.g] 33)) := ((Below.refl _ _).alloc (Nat.le_refl _) _).alloc (by simp) _
  have v0 := (CAt.mk_ w x).alloc (.cells #[.int .i64 y.kind, .int .u16 (y.p.i : Int), .int .u32 (y.p.k : Int), .int .u64 (y.num : Int), .int .u64 (y.vn : Int), .slice y.A y.n y.c, .int .u64 (y.x.id : Int), .slice y.x.A y.x.m y.x.c, .slice y.x.B y.x.d y.x.e, .slice y.x.C y.x.f y.x.g] 33)
  have v1 := CAt.mk_ (w.alloc (.cells #[.int .i64 x.kind, .int .u16 (x.p.i : Int), .int .u32 (x.p.k : Int), .int .u64 (x.num : Int), .int .u64 (x.vn : Int), .slice x.A x.n x.c, .int .u64 (x.x.id : Int), .slice x.x.A x.x.m x.x.c, .slice x.x.B x.x.d x.x.e, .slice x.x.C x.x.f x.x.g] 33)) y
  simp only [World.size_alloc] at v1
  generalize hw2 : ((w.alloc (.cells #[.int .i64 x.kind, .int .u16 (x.p.i : Int), .int .u32 (x.p.k : Int), .int .u64 (x.num : Int), .int .u64 (x.vn : Int), .slice x.A x.n x.c, .int .u64 (x.x.id : Int), .slice x.x.A x.x.m x.x.c, .slice x.x.B x.x.d x.x.e, .slice x.x.C x.x.f x.x.g] 33)).alloc (.cells #[.int .i64 y.kind, .int .u16 (y.p.i : Int), .int .u32 (y.p.k : Int), .int .u64 (y.num : Int), .int .u64 (y.vn : Int), .slice y.A y.n y.c, .int .u64 (y.x.id : Int), .slice y.x.A y.x.m y.x.c, .slice y.x.B y.x.d y.x.e, .slice y.x.C y.x.f y.x.g] 33)) = w2 at *
  have AW := fun W (hb : Below w.heap.size w W) => (awake9_any W).mono (fun e w' (hh : e = .returned (.bool true) ∧ Below W.heap.size W w') => (⟨hh.1, hb.trans (hh.2.mono hb.size)⟩ : e = .returned (.bool true) ∧ Below w.heap.size w w'))
  have cg := great9_any x w.heap.size w2 (h.below hbz) hbz.size
  unfold Great9P at cg
  obtain ⟨j0, j1, j2, j3, j4, j5, j6, j7, j8, j9⟩ := v0.cells
  obtain ⟨g0, g1, g2, g3, g4, g5, g6, g7, g8, g9⟩ := v1.cells
  go_enter Try.func5, Try.ntmps5
  go_wp2_with fail
  refine cg.mono ?_
  rintro e w3 ⟨gb, rfl, hsm, hb⟩
  have hb3 := hbz.trans (hb.mono hbz.size)
  have v03 := v0.later hb
  have v13 := v1.later hb
  clear cg hw2 hb hbz v0 v1 j0 j1 j2 j3 j4 j5 j6 j7 j8 j9 g0 g1 g2 g3 g4 g5 g6 g7 g8 g9
  obtain ⟨j0, j1, j2, j3, j4, j5, j6, j7, j8, j9⟩ := v03.cells
  obtain ⟨g0, g1, g2, g3, g4, g5, g6, g7, g8, g9⟩ := v13.cells
  cases gb
  case true =>
    clear hsm
    have aw := AW w3 hb3
    go_wp2_with fail
    refine aw.mono ?_
    rintro e w4 ⟨rfl, hb4⟩
    go_wp2
    go_ret
    exact ⟨rfl, hb4⟩
  have hs := hsm rfl
  clear hsm
  have cg := great9_any y w.heap.size w3 (h'.below hb3) hb3.size
  unfold Great9P at cg
  go_wp2_with fail
  refine cg.mono ?_
  rintro e w4 ⟨gb, rfl, hsm, hb⟩
  have hb4 := hb3.trans (hb.mono hb3.size)
  have v04 := v03.later hb
  have v14 := v13.later hb
  clear cg hb hb3 v03 v13 j0 j1 j2 j3 j4 j5 j6 j7 j8 j9 g0 g1 g2 g3 g4 g5 g6 g7 g8 g9
  obtain ⟨j0, j1, j2, j3, j4, j5, j6, j7, j8, j9⟩ := v04.cells
  obtain ⟨g0, g1, g2, g3, g4, g5, g6, g7, g8, g9⟩ := v14.cells
  cases gb
  case true =>
    clear hsm
    have aw := AW w4 hb4
    go_wp2_with fail
    refine aw.mono ?_
    rintro e w5 ⟨rfl, hb5⟩
    go_wp2
    go_ret
    exact ⟨rfl, hb5⟩
  have hs' := hsm rfl
  clear hsm
  obtain ⟨t, ht⟩ := bool_of (ButLen x.m)
  have ck := check9_any x w.heap.size w4 t (h.below hb4) hs.v hb4.size ht
  have cm := ckE_may ht
  rw [show x.m.d.length = x.n from h.bs.len] at cm
  generalize ckE t x.n = r at *
  clear ht
  by_cases hr : r = 0
  case neg =>
    have z1 : (r != 0) = true := by rw [bne_iff_ne]; exact hr
    have z2 : ¬ r = 0 := hr
    clear cm hr
    go_wp2_with fail
    refine ck.mono ?_
    rintro e w5 ⟨rfl, hb⟩
    have hb5 := hb4.trans (hb.mono hb4.size)
    have aw := AW w5 hb5
    clear ck hb
    go_wp2_with fail
    refine aw.mono ?_
    rintro e w6 ⟨rfl, hb6⟩
    go_wp2
    go_ret
    exact ⟨rfl, hb6⟩
  have hmx := cm.1 hr
  subst hr
  clear cm
  go_wp2_with fail
  refine ck.mono ?_
  rintro e w5 ⟨rfl, hb⟩
  have hb5 := hb4.trans (hb.mono hb4.size)
  have v05 := v04.later hb
  have v15 := v14.later hb
  clear ck hb hb4 v04 v14 j0 j1 j2 j3 j4 j5 j6 j7 j8 j9 g0 g1 g2 g3 g4 g5 g6 g7 g8 g9
  obtain ⟨j0, j1, j2, j3, j4, j5, j6, j7, j8, j9⟩ := v05.cells
  obtain ⟨g0, g1, g2, g3, g4, g5, g6, g7, g8, g9⟩ := v15.cells
  obtain ⟨t', ht'⟩ := bool_of (ButLen y.m)
  have ck := check9_any y w.heap.size w5 t' (h'.below hb5) hs'.v hb5.size ht'
  have cm := ckE_may ht'
  rw [show y.m.d.length = y.n from h'.bs.len] at cm
  generalize ckE t' y.n = r at *
  clear ht'
  by_cases hr : r = 0
  case neg =>
    have z1 : (r != 0) = true := by rw [bne_iff_ne]; exact hr
    have z2 : ¬ r = 0 := hr
    clear cm hr
    go_wp2_with fail
    refine ck.mono ?_
    rintro e w6 ⟨rfl, hb⟩
    have hb6 := hb5.trans (hb.mono hb5.size)
    have aw := AW w6 hb6
    clear ck hb
    go_wp2_with fail
    refine aw.mono ?_
    rintro e w7 ⟨rfl, hb7⟩
    go_wp2
    go_ret
    exact ⟨rfl, hb7⟩
  have hmy := cm.1 hr
  subst hr
  clear cm
  go_wp2_with fail
  refine ck.mono ?_
  rintro e w6 ⟨rfl, hb⟩
  have hb6 := hb5.trans (hb.mono hb5.size)
  have v06 := v05.later hb
  have v16 := v15.later hb
  clear ck hb hb5 v05 v15 j0 j1 j2 j3 j4 j5 j6 j7 j8 j9 g0 g1 g2 g3 g4 g5 g6 g7 g8 g9
  obtain ⟨j0, j1, j2, j3, j4, j5, j6, j7, j8, j9⟩ := v06.cells
  obtain ⟨g0, g1, g2, g3, g4, g5, g6, g7, g8, g9⟩ := v16.cells
  obtain ⟨s, hsame⟩ := bool_of (x.m = y.m)
  have cs := rcsame_any x y w.heap.size w.heap.size w6 s (h.below hb6) (h'.below hb6) hb6.size hb6.size hsame
  go_wp2_with fail
  refine cs.mono ?_
  rintro e w7 ⟨rfl, hb⟩
  have hb7 := hb6.trans (hb.mono hb6.size)
  have v07 := v06.later hb
  have v17 := v16.later hb
  clear cs hb hb6 v06 v16 j0 j1 j2 j3 j4 j5 j6 j7 j8 j9 g0 g1 g2 g3 g4 g5 g6 g7 g8 g9
  obtain ⟨j0, j1, j2, j3, j4, j5, j6, j7, j8, j9⟩ := v07.cells
  obtain ⟨g0, g1, g2, g3, g4, g5, g6, g7, g8, g9⟩ := v17.cells
  cases s
  case true =>
    clear hsame
    have aw := AW w7 hb7
    go_wp2_with fail
    refine aw.mono ?_
    rintro e w8 ⟨rfl, hb8⟩
    go_wp2
    go_ret
    exact ⟨rfl, hb8⟩
  have hne : x.m ≠ y.m := fun e => by have := hsame.2 e; cases this
  clear hsame
  have q0 := v07.lt
  have q1 := v17.lt
  have sz9 : ((w7.alloc (.cells #[.slice none 0 0] 38)).alloc (.cells #[.slice none 0 0] 38)).heap.size = w7.heap.size + 1 + 1 := by simp
  have k1 := (WrAt.new w7 w7.heap.size (Nat.le_refl _)).alloc (.cells #[.slice none 0 0] 38)
  have k2 := WrAt.new (w7.alloc (.cells #[.slice none 0 0] 38)) (w7.heap.size + 1) (by simp)
  have hb9 := (hb7.alloc hb7.size (.cells #[.slice none 0 0] 38)).alloc (by simp; omega) (.cells #[.slice none 0 0] 38)
  simp only [World.size_alloc] at k2
  have v09 := (v07.alloc (.cells #[.slice none 0 0] 38)).alloc (.cells #[.slice none 0 0] 38)
  have v19 := (v17.alloc (.cells #[.slice none 0 0] 38)).alloc (.cells #[.slice none 0 0] 38)
  have lx := formC_len hmx
  have ly := formC_len hmy
  have c1 := cput_any x w7.heap.size w7.heap.size w.heap.size none [] _ k1 (by rw [sz9]; omega) (by decide) (h.below hb9) (by omega) hs hmx
  rw [List.nil_append] at c1
  go_wp2_with fail
  generalize ((w7.alloc (.cells #[.slice none 0 0] 38)).alloc (.cells #[.slice none 0 0] 38)) = w9 at *
  refine c1.mono ?_
  rintro e w10 ⟨rfl, mg1, k3, ht1, hm1⟩
  have low10 := k1.turned ht1 (by omega)
  have hb10 := hb9.trans (low10.mono (by omega))
  have v010 := v09.turn ht1 (by omega) (by simp)
  have v110 := v19.turn ht1 (by omega) (by simp)
  have k4 : WrAt w10 (w7.heap.size + 1) (w7.heap.size + 1) none [] := k2.keep (ht1.block _ k2.lt (by omega) (by simp)) (fun g hg => by cases hg)
  have s10 := ht1.size
  have c2 := cput_any y (w7.heap.size + 1) (w7.heap.size + 1) w.heap.size none [] w10 k4 (by omega) (by decide) (h'.below hb10) (by omega) hs' hmy
  rw [List.nil_append] at c2
  have hm1' : ∀ g, mg1 = some g → w9.heap.size ≤ g := fun g hg => by
    rcases hm1 with e | ⟨g', e, hg'⟩
    · rw [e] at hg; cases hg
    · rw [e] at hg; cases hg; exact hg'
  clear c1 k1 k2 ht1 hm1 low10 v07 v17 v09 v19 hb7 hb9 j0 j1 j2 j3 j4 j5 j6 j7 j8 j9 g0 g1 g2 g3 g4 g5 g6 g7 g8 g9
  obtain ⟨j0, j1, j2, j3, j4, j5, j6, j7, j8, j9⟩ := v010.cells
  obtain ⟨g0, g1, g2, g3, g4, g5, g6, g7, g8, g9⟩ := v110.cells
  go_wp2_with fail
  refine c2.mono ?_
  rintro e w11 ⟨rfl, mg2, k5, ht2, hm2⟩
  have low11 := k4.turned ht2 (by omega)
  have hb11 := hb10.trans (low11.mono (by omega))
  have s11 := ht2.size
  have k6 : WrAt w11 w7.heap.size w7.heap.size mg1 (formC x.m) := k3.keep (ht2.block _ k3.lt (by omega) (by simp)) (fun g hg => ht2.block g (k3.mlt g hg).2.1 (by have := hm1' g hg; omega) (by simp))
  clear c2 k3 k4 ht2 hm2 low11 v010 v110 hm1' hb10 j0 j1 j2 j3 j4 j5 j6 j7 j8 j9 g0 g1 g2 g3 g4 g5 g6 g7 g8 g9
  have hnf := not_front hmx hmy hne
  have p1 := formC_pos x.m
  have p2 := formC_pos y.m
  generalize formC x.m = X at *
  generalize formC y.m = Y at *
  have d1 := wdone_any w7.heap.size w7.heap.size mg1 X w11 k6 (by omega)
  go_wp2_with fail
  refine d1.mono ?_
  rintro e w12 ⟨A1, e1, rfl, o1, b1⟩
  have hb12 := hb11.trans (b1.mono hb11.size)
  have k7 := k5.later b1
  have d2 := wdone_any (w7.heap.size + 1) (w7.heap.size + 1) mg2 Y w12 k7 (by omega)
  clear d1 k5 k6 hb11
  go_wp2_with fail
  refine d2.mono ?_
  rintro e w13 ⟨A2, e2, rfl, o2, b2⟩
  have hb13 := hb12.trans (b2.mono hb12.size)
  have o1' := (OwnB.bs o1).below b2
  have o2' := OwnB.bs o2
  have r2 := OwnB.cap o2
  clear d2 k7 hb12 b1 b2 o1 o2 s10 s11 sz9 q0 q1
  obtain ⟨n1, hn1⟩ : ∃ n, n = X.length := ⟨_, rfl⟩
  obtain ⟨n2, hn2⟩ : ∃ n, n = Y.length := ⟨_, rfl⟩
  rw [← hn1] at o1' p1 lx hnf
  rw [← hn2] at o2' p2 ly r2 hnf
  simp only [← hn1, ← hn2]
  clear hn1 hn2
  have z1 : decide ((0 : Int) < (n1 : Int)) = true := decide_eq_true (by omega)
  have z2 : decide ((0 : Int) < (n2 : Int)) = true := decide_eq_true (by omega)
  by_cases hle : n1 ≤ n2
  · have z3 : decide ((n1 : Int) ≤ (n2 : Int)) = true := decide_eq_true (by omega)
    have hsm : sameB X (Y.take n1) = false := decide_eq_false fun e => hnf ⟨hle, e⟩
    have c3 := same_any A1 A2 n1 n1 e1 e2 X (Y.take n1) _ _ w13 o1' (o2'.take hle) (by unfold maxLen; omega) (by unfold maxLen; omega)
    rw [hsm] at c3
    have hle2 : n1 ≤ e2 := by omega
    clear hsm hnf o1' o2'
    go_wp2_with fail
    refine c3.mono ?_
    rintro e w14 ⟨rfl, hd⟩
    have hb14 := hb13.trans (drawn_below hd)
    have aw := AW w14 hb14
    clear c3 hd
    go_wp2_with fail
    refine aw.mono ?_
    rintro e w15 ⟨rfl, hb15⟩
    go_wp2
    go_ret
    exact ⟨rfl, hb15⟩
  · have z3 : decide ((n1 : Int) ≤ (n2 : Int)) = false := decide_eq_false (by omega)
    have aw := AW w13 hb13
    clear hnf o1' o2'
    go_wp2_with fail
    refine aw.mono ?_
    rintro e w15 ⟨rfl, hb15⟩
    go_wp2
    go_ret
    exact ⟨rfl, hb15⟩

/-! ### THE ROW's STEP -/
set_option maxRecDepth 100000 in
theorem lifted (os : Os) (started : os.Started) (H : Type) (enc : TypeId × Value → H) :
    ReturnsInHanded {} Try.checked os 5 .any (Rows.cmdApartSpec.pre6 enc Try.prog Try.f5 Rows.cmdApartRow.domain false) (Rows.cmdApartSpec.post enc Try.prog Try.f5 false true false false) := by
  refine returnsInHanded_of_change (C := Try.checked) own started (by kernel_rfl) Try.func5
    (ChangeSpec.witness6 (enc := enc) (C := Try.checked) false ⟨#[], #[.agg #[.int .i64 0, .int .u16 0, .int .u32 0, .int .u64 0, .int .u64 0, .slice none 0 0, .int .u64 0, .slice none 0 0, .slice none 0 0, .slice none 0 0], .agg #[.int .i64 0, .int .u16 0, .int .u32 0, .int .u64 0, .int .u64 0, .slice none 0 0, .int .u64 0, .slice none 0 0, .slice none 0 0, .slice none 0 0]], []⟩ 8 (by kernel_rfl) (by kernel_rfl) (by kernel_rfl) (by kernel_rfl)) ?_
  intro W base args ds gs before hval0 hW hcnd _
  have hval : ∀ (j : Nat) t v, Try.f5.params[j]? = some t → args[j]? = some v → Value.okWide Try.prog W .any base t v := hval0
  have hW' := hW
  obtain ⟨p, q, hA0, hV, rfl, hfz, hnd⟩ := hW
  have hA : DataW.TrodAll enc Try.prog W 0 (fun _ => true) true Try.f5.params.toList args.toList ds p := hA0
  rw [Try.params5] at hA hval
  obtain ⟨v0, vs0, d0, ds0, p0, q0, hargs, rfl, rfl, h0, r0⟩ := trodAll_cons hA
  obtain ⟨v1, vs1, d1, ds1, p1, q1, rfl, rfl, rfl, h1, r1⟩ := trodAll_cons r0
  obtain ⟨rfl, rfl, rfl⟩ := trodAll_nil r1
  obtain rfl : args = #[v0, v1] := by cases args; simp_all
  obtain ⟨rfl, rfl⟩ := trodVars_none hV
  have k0 := h0
  have lt0 : ∀ x ∈ p0, x.block < W.heap.size := by obtain ⟨m, hm⟩ := k0; exact DataW.trod_lt m _ _ _ hm
  obtain ⟨x0, rfl, hx0⟩ := open_cmd (hval 0 33 v0 rfl rfl) h0
  have k1 := h1
  have lt1 : ∀ x ∈ p1, x.block < W.heap.size := by obtain ⟨m, hm⟩ := k1; exact DataW.trod_lt m _ _ _ hm
  obtain ⟨x1, rfl, hx1⟩ := open_cmd (hval 1 33 v1 rfl rfl) h1
  clear hA0 hval0
  refine (walk x0 x1 W hx0 hx1).mono fun e W' ⟨he, bel⟩ => ?_
  subst he
  exact ⟨_, rfl, _, _, _, [], _, [], hW', trodAll_mk1 (shut_bool Try.underlying4 _), (trodAll_cons_mk (Below.trod laidOut (by kernel_rfl) (of_decide_eq_true (by kernel_rfl)) k0 bel lt0) (trodAll_cons_mk (Below.trod laidOut (by kernel_rfl) (of_decide_eq_true (by kernel_rfl)) k1 bel lt1) trodAll_mk0)), rfl, bel.frame _, fun h => by cases h⟩

theorem over : Rows.cmdApartRow.holds Try.pinned (OpenSpec.ofChange Rows.cmdApartSpec) :=
  OpenClaim.holds_of_wide 5 Try.f5 rfl rfl rfl rfl rfl rfl rfl ⟨rfl, rfl, rfl, rfl, rfl⟩ rfl rfl rfl rfl rfl (by kernel_rfl) Try.func5 (by kernel_rfl)
    (of_decide_eq_true (by kernel_rfl)) (by unfold Func.isWrapper; first | (rw [if_pos (by decide +kernel)]; kernel_rfl) | (rw [if_neg (by decide +kernel)]; exact ⟨rfl, rfl⟩))
    (fun os started H enc _ => lifted os started H enc)

theorem proved : Rows.CmdApartSaid := over
#print axioms proved
end Go.Proofs.Ytdmihbicpjmgjaa.cmdApart
