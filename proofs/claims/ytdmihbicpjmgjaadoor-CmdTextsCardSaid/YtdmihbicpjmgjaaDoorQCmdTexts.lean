/-
  The law choraguslaw09.CmdTexts answers true, and does not panic, for every argument that its row allows; its card ties what the row lists to the program's text. Conditions: none but the row's own.
-/
import Derived.Test.YtdmihbicpjmgjaaDoorCards
import Derived.Test.YtdmihbicpjmgjaaDoorTie
import Derived.WalkKit
import Derived.ProofKit
import Derived.OpenShut
import Derived.ShutString
import Derived.ChangeOld
import Derived.Below
import Derived.Deep.DeepHandedRow
import Derived.Deep.DeepWitnessRowRef
import Derived.Lib.LaidTab
import Derived.LaidMore
import Derived.Test.YtdmihbicpjmgjaaDoorQOpenF
import Derived.Test.YtdmihbicpjmgjaaDoorQTextM
import Derived.Test.YtdmihbicpjmgjaaDoorQLaid3
import Derived.Test.YtdmihbicpjmgjaaDoorQCmdU
namespace Go.Proofs.YtdmihbicpjmgjaaDoor.cmdTexts
open Go.ChangeShapes Go.WideShapes Go.ChangeAt Go.RowKit
open Go.ChangeMaps (open_string shut_string)
set_option linter.unusedVariables false
set_option linter.unusedSimpArgs false

open Go.Lib
theorem pows_laid {W : World} (h : laidMetH Tryd.prog Rows.cmdTextsRow.laid W) : Pows W := by
  have h' : laidMetH Tryd.prog [("math/bits.deBruijn32tab", Rows.laid_math_bits_deBruijn32tab), ("math/bits.deBruijn64tab", Rows.laid_math_bits_deBruijn64tab), ("internal/strconv.uint64pow10", Rows.laid_internal_strconv_uint64pow10)] W := h
  rw [MakeChecks.laidMetH_plain _ _ _ (by kernel_rfl)] at h'
  exact pows_of h'.tail.tail
set_option maxRecDepth 100000 in
set_option maxHeartbeats 4000000 in
theorem walk (x y : Cx) (w : World) (h : CxIn w w.heap.size x) (h' : CxIn w w.heap.size y) (hL : laidMetH Tryd.prog Rows.cmdTextsRow.laid w) :
    Calls Tryd.prog 3 #[.agg #[.int .i64 x.kind, .int .u16 (x.p.i : Int), .int .u32 (x.p.k : Int), .int .u64 (x.num : Int), .int .u64 (x.vn : Int), .slice x.A x.n x.c, .int .u64 (x.x.id : Int), .slice x.x.A x.x.m x.x.c, .slice x.x.B x.x.d x.x.e, .slice x.x.C x.x.f x.x.g], .agg #[.int .i64 y.kind, .int .u16 (y.p.i : Int), .int .u32 (y.p.k : Int), .int .u64 (y.num : Int), .int .u64 (y.vn : Int), .slice y.A y.n y.c, .int .u64 (y.x.id : Int), .slice y.x.A y.x.m y.x.c, .slice y.x.B y.x.d y.x.e, .slice y.x.C y.x.f y.x.g]] w fun e w' => e = .returned (.bool true) ∧ Below w.heap.size w w' := by
  have hP := pows_laid hL
  clear hL
  have hbz : Below w.heap.size w ((w.alloc (.cells #[.int .i64 x.kind, .int .u16 (x.p.i : Int), .int .u32 (x.p.k : Int), .int .u64 (x.num : Int), .int .u64 (x.vn : Int), .slice x.A x.n x.c, .int .u64 (x.x.id : Int), .slice x.x.A x.x.m x.x.c, .slice x.x.B x.x.d x.x.e, .slice x.x.C x.x.f x.x.g] 33)).alloc (.cells #[.int .i64 y.kind, .int .u16 (y.p.i : Int), .int .u32 (y.p.k : Int), .int .u64 (y.num : Int), .int .u64 (y.vn : Int), .slice y.A y.n y.c, .int .u64 (y.x.id : Int), .slice y.x.A y.x.m y.x.c, .slice y.x.B y.x.d y.x.e, .slice y.x.C y.x.f y.x.g] 33)) := ((Below.refl _ _).alloc (Nat.le_refl _) _).alloc (by simp) _
  have v0 := (CAt.mk_ w x).alloc (.cells #[.int .i64 y.kind, .int .u16 (y.p.i : Int), .int .u32 (y.p.k : Int), .int .u64 (y.num : Int), .int .u64 (y.vn : Int), .slice y.A y.n y.c, .int .u64 (y.x.id : Int), .slice y.x.A y.x.m y.x.c, .slice y.x.B y.x.d y.x.e, .slice y.x.C y.x.f y.x.g] 33)
  have v1 := CAt.mk_ (w.alloc (.cells #[.int .i64 x.kind, .int .u16 (x.p.i : Int), .int .u32 (x.p.k : Int), .int .u64 (x.num : Int), .int .u64 (x.vn : Int), .slice x.A x.n x.c, .int .u64 (x.x.id : Int), .slice x.x.A x.x.m x.x.c, .slice x.x.B x.x.d x.x.e, .slice x.x.C x.x.f x.x.g] 33)) y
  simp only [World.size_alloc] at v1
  generalize hw2 : ((w.alloc (.cells #[.int .i64 x.kind, .int .u16 (x.p.i : Int), .int .u32 (x.p.k : Int), .int .u64 (x.num : Int), .int .u64 (x.vn : Int), .slice x.A x.n x.c, .int .u64 (x.x.id : Int), .slice x.x.A x.x.m x.x.c, .slice x.x.B x.x.d x.x.e, .slice x.x.C x.x.f x.x.g] 33)).alloc (.cells #[.int .i64 y.kind, .int .u16 (y.p.i : Int), .int .u32 (y.p.k : Int), .int .u64 (y.num : Int), .int .u64 (y.vn : Int), .slice y.A y.n y.c, .int .u64 (y.x.id : Int), .slice y.x.A y.x.m y.x.c, .slice y.x.B y.x.d y.x.e, .slice y.x.C y.x.f y.x.g] 33)) = w2 at *
  have AW := fun W (hb : Below w.heap.size w W) => (awake9_any W).mono (fun e w' (hh : e = .returned (.bool true) ∧ Below W.heap.size W w') => (⟨hh.1, hb.trans (hh.2.mono hb.size)⟩ : e = .returned (.bool true) ∧ Below w.heap.size w w'))
  have cg := great9_any x w.heap.size w2 (h.below hbz) hbz.size
  unfold Great9P at cg
  obtain ⟨j0, j1, j2, j3, j4, j5, j6, j7, j8, j9⟩ := v0.cells
  obtain ⟨g0, g1, g2, g3, g4, g5, g6, g7, g8, g9⟩ := v1.cells
  have HPW := hide hP
  clear hP
  go_enter Tryd.func3, Tryd.ntmps3
  go_wp2_with fail
  refine cg.mono ?_
  rintro e w3 ⟨gb, rfl, hsm, hb⟩
  have hb3 := hbz.trans (hb.mono hbz.size)
  have v03 := v0.later hb
  have v13 := v1.later hb
  clear cg hw2 hb hbz v0 v1 j0 j1 j2 j3 j4 j5 j6 j7 j8 j9 g0 g1 g2 g3 g4 g5 g6 g7 g8 g9
  obtain ⟨j0, j1, j2, j3, j4, j5, j6, j7, j8, j9⟩ := v03.cells
  obtain ⟨g0, g1, g2, g3, g4, g5, g6, g7, g8, g9⟩ := v13.cells
  cases gb
  case true =>
    clear hsm
    have aw := AW w3 hb3
    go_wp2_with fail
    refine aw.mono ?_
    rintro e w4 ⟨rfl, hb4⟩
    go_wp2
    go_ret
    exact ⟨rfl, hb4⟩
  have hs := hsm rfl
  clear hsm
  have cg := great9_any y w.heap.size w3 (h'.below hb3) hb3.size
  unfold Great9P at cg
  go_wp2_with fail
  refine cg.mono ?_
  rintro e w4 ⟨gb, rfl, hsm, hb⟩
  have hb4 := hb3.trans (hb.mono hb3.size)
  have v04 := v03.later hb
  have v14 := v13.later hb
  clear cg hb hb3 v03 v13 j0 j1 j2 j3 j4 j5 j6 j7 j8 j9 g0 g1 g2 g3 g4 g5 g6 g7 g8 g9
  obtain ⟨j0, j1, j2, j3, j4, j5, j6, j7, j8, j9⟩ := v04.cells
  obtain ⟨g0, g1, g2, g3, g4, g5, g6, g7, g8, g9⟩ := v14.cells
  cases gb
  case true =>
    clear hsm
    have aw := AW w4 hb4
    go_wp2_with fail
    refine aw.mono ?_
    rintro e w5 ⟨rfl, hb5⟩
    go_wp2
    go_ret
    exact ⟨rfl, hb5⟩
  have hs' := hsm rfl
  clear hsm
  obtain ⟨La, hLa⟩ := TextC.some_ x.m
  obtain ⟨Lb, hLb⟩ := TextC.some_ y.m
  have hone := TextC.one hLa hLb
  have k1 := fun Z : Later w4 => calm_of (text_any x w.heap.size Z.w La (h.below (hb4.trans (Z.below.mono hb4.size))) hs (Nat.le_trans hb4.size Z.below.size) hLa (HPW.out.below (hb4.trans (Z.below.mono hb4.size))))
  have k2 := fun Z : Later w4 => calm_of (text_any y w.heap.size Z.w Lb (h'.below (hb4.trans (Z.below.mono hb4.size))) hs' (Nat.le_trans hb4.size Z.below.size) hLb (HPW.out.below (hb4.trans (Z.below.mono hb4.size))))
  have r1 := fun W (hb : Below w.heap.size w W) => rtext_any x w.heap.size W La (h.below hb) hs hb.size hLa
  have r2 := fun W (hb : Below w.heap.size w W) => rtext_any y w.heap.size W Lb (h'.below hb) hs' hb.size hLb
  have e0 := Later.cell j0
  have e1 := Later.cell j1
  have e2 := Later.cell j2
  have e3 := Later.cell j3
  have e4 := Later.cell j4
  have e5 := Later.cell j5
  have e6 := Later.cell j6
  have e7 := Later.cell j7
  have e8 := Later.cell j8
  have e9 := Later.cell j9
  have f0 := Later.cell g0
  have f1 := Later.cell g1
  have f2 := Later.cell g2
  have f3 := Later.cell g3
  have f4 := Later.cell g4
  have f5 := Later.cell g5
  have f6 := Later.cell g6
  have f7 := Later.cell g7
  have f8 := Later.cell g8
  have f9 := Later.cell g9
  have HONE := hide hone
  clear hone hLa hLb
  obtain ⟨sa, hsa⟩ : ∃ s, s = txt La := ⟨_, rfl⟩
  obtain ⟨sb, hsb⟩ : ∃ s, s = txt Lb := ⟨_, rfl⟩
  rw [← hsa] at k1
  rw [← hsb] at k2
  rw [← hsa] at r1
  rw [← hsb] at r2
  have HS := hide (And.intro hsa hsb)
  clear hsa hsb
  go_wp2_with fail
  refine wp_region_calm (by kernel_rfl) (by kernel_rfl) ?_
  repeat (go_big_quiet_step ((go_at_call 6; first | with_reducible exact k1 _ | with_reducible exact k2 _)))
  refine wpQuiet_nil ?_
  rintro _ ⟨x9, rfl⟩
  have hb9 := x9.below
  generalize x9.w = w5 at hb9 ⊢
  have hb5 := hb4.trans (hb9.mono hb4.size)
  have v05 := v04.later hb9
  have v15 := v14.later hb9
  clear k1 k2 hb9 hb4 v04 v14 e0 e1 e2 e3 e4 e5 e6 e7 e8 e9 f0 f1 f2 f3 f4 f5 f6 f7 f8 f9 j0 j1 j2 j3 j4 j5 j6 j7 j8 j9 g0 g1 g2 g3 g4 g5 g6 g7 g8 g9
  obtain ⟨j0, j1, j2, j3, j4, j5, j6, j7, j8, j9⟩ := v05.cells
  obtain ⟨g0, g1, g2, g3, g4, g5, g6, g7, g8, g9⟩ := v15.cells
  have c1 := r1 w5 hb5
  go_wp2_with fail
  refine c1.mono ?_
  rintro e w6 ⟨rfl, hb⟩
  have hb6 := hb5.trans (hb.mono hb5.size)
  have v06 := v05.later hb
  have v16 := v15.later hb
  clear c1 r1 hb hb5 v05 v15 j0 j1 j2 j3 j4 j5 j6 j7 j8 j9 g0 g1 g2 g3 g4 g5 g6 g7 g8 g9
  obtain ⟨j0, j1, j2, j3, j4, j5, j6, j7, j8, j9⟩ := v06.cells
  obtain ⟨g0, g1, g2, g3, g4, g5, g6, g7, g8, g9⟩ := v16.cells
  have c2 := r2 w6 hb6
  go_wp2_with fail
  refine c2.mono ?_
  rintro e w7 ⟨rfl, hb⟩
  have hb7 := hb6.trans (hb.mono hb6.size)
  have v07 := v06.later hb
  have v17 := v16.later hb
  clear c2 r2 hb hb6 v06 v16 j0 j1 j2 j3 j4 j5 j6 j7 j8 j9 g0 g1 g2 g3 g4 g5 g6 g7 g8 g9
  obtain ⟨j0, j1, j2, j3, j4, j5, j6, j7, j8, j9⟩ := v07.cells
  obtain ⟨g0, g1, g2, g3, g4, g5, g6, g7, g8, g9⟩ := v17.cells
  have TL : ∀ l : List UInt8, (txt l).toList = l := fun l => by unfold txt; rw [ByteArray.toList_mk]
  have HTL := hide TL
  clear TL
  have aw := AW w7 hb7
  go_wp2_with fail
  all_goals first
    | (refine aw.mono ?_
       rintro e w9 ⟨rfl, hb9⟩
       go_wp2
       go_ret
       exact ⟨rfl, hb9⟩)
    | (have q1 : sa.toList = sb.toList := by assumption
       have q2 : ¬ sb.toList = [63] := by assumption
       have hm : x.m = y.m := by
         rw [HS.out.1, HS.out.2, HTL.out, HTL.out] at q1
         rw [HS.out.2, HTL.out] at q2
         rcases HONE.out q1 with e | e
         · exact absurd (q1.symm.trans e) q2
         · exact e
       have cs := rcsame_any x y w.heap.size w.heap.size w7 true (h.below hb7) (h'.below hb7) hb7.size hb7.size ⟨fun _ => hm, fun _ => rfl⟩
       refine cs.mono ?_
       rintro e w8 ⟨rfl, hb⟩
       have hb8 := hb7.trans (hb.mono hb7.size)
       have aw8 := AW w8 hb8
       clear aw cs hm
       go_wp2_with fail
       refine aw8.mono ?_
       rintro e w9 ⟨rfl, hb9⟩
       go_wp2
       go_ret
       exact ⟨rfl, hb9⟩)

/-! ### THE ROW's STEP, AND THE CARD -/
set_option maxRecDepth 100000 in
/-- What the walk gives, for every argument and every world that holds what the row lists. -/
theorem contract (H : Type) (enc : TypeId × Value → H) (W : World) (base : Nat) (args : Array Value) (ds gs : List (DataW H)) (before : List MemPlace)
    (hval : ∀ (j : Nat) t v, Tryd.f3.params[j]? = some t → args[j]? = some v → Value.okWide Tryd.prog W .any base t v)
    (hW : DataW.Whole enc Tryd.prog Tryd.f3.params.toList Rows.cmdTextsSpec.vars false W args.toList ds gs before)
    (_hsz : (DataW.weightsEach Tryd.prog (Tryd.f3.params.toList ++ (OpenSpec.ofChange Rows.cmdTextsSpec).bare.plain.varTypes Tryd.prog) (ds ++ gs)).all (· ≤ reachBytes) = true)
    (_hL : laidMetH Tryd.prog Rows.cmdTextsRow.laid W) :
    Calls Tryd.prog 3 args W fun e W' => ∃ v, e = .returned v ∧ Rows.cmdTextsSpec.post enc Tryd.prog Tryd.f3 false true false false W args v W' := by
  have hW' := hW
  obtain ⟨p, q, hA0, hV, rfl, hfz, hnd⟩ := hW
  have hA : DataW.TrodAll enc Tryd.prog W 0 (fun _ => true) true Tryd.f3.params.toList args.toList ds p := hA0
  rw [Tryd.params3] at hA hval _hsz
  obtain ⟨v0, vs0, d0, ds0, p0, q0, hargs, rfl, rfl, h0, r0⟩ := trodAll_cons hA
  obtain ⟨v1, vs1, d1, ds1, p1, q1, rfl, rfl, rfl, h1, r1⟩ := trodAll_cons r0
  obtain ⟨rfl, rfl, rfl⟩ := trodAll_nil r1
  obtain rfl : args = #[v0, v1] := by cases args; simp_all
  obtain ⟨rfl, rfl⟩ := trodVars_none hV
  have k0 := h0
  have lt0 : ∀ x ∈ p0, x.block < W.heap.size := by obtain ⟨m, hm⟩ := k0; exact DataW.trod_lt m _ _ _ hm
  obtain ⟨x0, rfl, hx0⟩ := open_cmd (hval 0 33 v0 rfl rfl) h0
  have k1 := h1
  have lt1 : ∀ x ∈ p1, x.block < W.heap.size := by obtain ⟨m, hm⟩ := k1; exact DataW.trod_lt m _ _ _ hm
  obtain ⟨x1, rfl, hx1⟩ := open_cmd (hval 1 33 v1 rfl rfl) h1
  clear hA0
  refine (walk x0 x1 W hx0 hx1 _hL).mono fun e W' ⟨he, bel⟩ => ?_
  subst he
  exact ⟨_, rfl, _, _, _, [], _, [], hW', trodAll_mk1 (shut_bool Tryd.underlying4 _), (trodAll_cons_mk (Below.trod laidOut (by kernel_rfl) (of_decide_eq_true (by kernel_rfl)) k0 bel lt0) (trodAll_cons_mk (Below.trod laidOut (by kernel_rfl) (of_decide_eq_true (by kernel_rfl)) k1 bel lt1) trodAll_mk0)), rfl, bel.frame _, fun h => by cases h⟩

/-- A world for the witness: what the door's own run leaves. -/
theorem laid_met (os : Os) : laidMet Tryd.prog Rows.cmdTextsRow.laid (((World.doorLaid Tryd.prog 400 os)).forCall (fun _ _ => 0) ⟨#[], #[.agg #[.int .i64 0, .int .u16 0, .int .u32 0, .int .u64 0, .int .u64 0, .slice none 0 0, .int .u64 0, .slice none 0 0, .slice none 0 0, .slice none 0 0], .agg #[.int .i64 0, .int .u16 0, .int .u32 0, .int .u64 0, .int .u64 0, .slice none 0 0, .int .u64 0, .slice none 0 0, .slice none 0 0, .slice none 0 0]], []⟩).memory :=
  laidMet_of_run' 8 (by kernel_rfl) (by kernel_rfl)
theorem reads (os : Os) {H : Type} (enc : TypeId × Value → H) : ∃ places, DataW.whole enc Tryd.prog (((World.doorLaid Tryd.prog 400 os)).forCall (fun _ _ => 0) ⟨#[], #[.agg #[.int .i64 0, .int .u16 0, .int .u32 0, .int .u64 0, .int .u64 0, .slice none 0 0, .int .u64 0, .slice none 0 0, .slice none 0 0, .slice none 0 0], .agg #[.int .i64 0, .int .u16 0, .int .u32 0, .int .u64 0, .int .u64 0, .slice none 0 0, .int .u64 0, .slice none 0 0, .slice none 0 0, .slice none 0 0]], []⟩).memory Tryd.f3.params.toList Rows.cmdTextsSpec.vars false (#[.agg #[.int .i64 0, .int .u16 0, .int .u32 0, .int .u64 0, .int .u64 0, .slice none 0 0, .int .u64 0, .slice none 0 0, .slice none 0 0, .slice none 0 0], .agg #[.int .i64 0, .int .u16 0, .int .u32 0, .int .u64 0, .int .u64 0, .slice none 0 0, .int .u64 0, .slice none 0 0, .slice none 0 0, .slice none 0 0]] : Array Value).toList 8 = some ([.agg [.lit (.int .i64 0), .agg [.lit (.int .u16 0), .lit (.int .u32 0)], .lit (.int .u64 0), .lit (.int .u64 0), .nil, .agg [.lit (.int .u64 0), .nil, .nil, .nil]], .agg [.lit (.int .i64 0), .agg [.lit (.int .u16 0), .lit (.int .u32 0)], .lit (.int .u64 0), .lit (.int .u64 0), .nil, .agg [.lit (.int .u64 0), .nil, .nil, .nil]]], [], places) :=
  ⟨[], by kernel_rfl⟩
set_option maxRecDepth 100000 in
theorem lifted (os : Os) (started : os.Started) (H : Type) (enc : TypeId × Value → H) (F : Stop.Interp) :
    ReturnsInHanded {} Tryd.checked os 3 .any ((OpenSpec.ofChange Rows.cmdTextsSpec).preRow enc Tryd.prog Tryd.f3 Rows.cmdTextsRow.domain false Rows.cmdTextsRow.laid) (((OpenSpec.ofChange Rows.cmdTextsSpec).at F).post enc Tryd.prog Tryd.f3 false true false false) := by
  obtain ⟨places, hx⟩ := reads os enc
  refine returnsInHanded_of_row (C := Tryd.checked) (s := OpenSpec.ofChange Rows.cmdTextsSpec) own started (by kernel_rfl) Tryd.func3
    (witness_row_atRef (enc := enc) (C := Tryd.checked) false (World.doorLaid Tryd.prog 400 os) #[.agg #[.int .i64 0, .int .u16 0, .int .u32 0, .int .u64 0, .int .u64 0, .slice none 0 0, .int .u64 0, .slice none 0 0, .slice none 0 0, .slice none 0 0], .agg #[.int .i64 0, .int .u16 0, .int .u32 0, .int .u64 0, .int .u64 0, .slice none 0 0, .int .u64 0, .slice none 0 0, .slice none 0 0, .slice none 0 0]] rfl (by kernel_rfl) (by kernel_rfl) (by kernel_rfl)
      (OpenSpec.preRow_of_cond 8 hx (by kernel_rfl) (fun k hk => by cases hk) (by kernel_rfl) (laid_met os))) ?_
  intro W base args ds gs before hval hW _ _ hsz hL _ _
  exact contract H enc W base args ds gs before hval hW hsz hL
theorem said : Rows.CmdTextsSaid :=
  OpenClaim.holds_of_cond 3 Tryd.f3 rfl rfl rfl rfl rfl rfl rfl ⟨rfl, rfl, rfl, rfl, rfl⟩ rfl rfl rfl rfl rfl (by kernel_rfl) Tryd.func3 (by kernel_rfl)
    (of_decide_eq_true (by kernel_rfl)) (by unfold Func.isWrapper; first | (rw [if_pos (by decide +kernel)]; kernel_rfl) | (rw [if_neg (by decide +kernel)]; exact ⟨rfl, rfl⟩))
    (fun os started H enc _ F => by rw [OpenClaim.pre_eq_preRow]; exact lifted os started H enc F)
theorem proved : Rows.CmdTextsCardSaid :=
  Claim7.holds_tied_plain_at .later [] _ _ _ _ said (fun _ h => by cases h) (by kernel_rfl) (fun _ h => by cases h) cmdTexts_row_tie rfl ⟨rfl, rfl⟩ (by kernel_rfl) rfl
    (fun f fn hf hfn => by
      obtain rfl : f = 3 := Option.some.inj ((show Tryd.prog.funcNamed "choragus/choraguslaw09.CmdTexts" = some 3 by kernel_rfl).symm.trans hf) |>.symm
      obtain rfl : fn = Tryd.f3 := (Option.some.inj (Tryd.func3.symm.trans hfn)).symm
      exact ⟨by kernel_rfl, fun j t ht => by
        rw [Tryd.params3] at ht
        have hm : t ∈ [33, 33] := by simpa using Array.mem_of_getElem? ht
        have hall : ([33, 33].all fun u => !Tryd.prog.wantsStandIn u) = true := by kernel_rfl
        exact (show Tryd.prog.wantsStandIn t = false by simpa using List.all_eq_true.1 hall t hm)⟩)
    (by kernel_rfl)
#print axioms proved
end Go.Proofs.YtdmihbicpjmgjaaDoor.cmdTexts
