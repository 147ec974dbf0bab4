/-
  The law choraguslaw07.BodyNil answers true, and does not panic, for every argument that its row allows. Conditions: none but the row's own.
-/
import Derived.Test.YtgbfpolcefhemaaRows
import Derived.WalkKit
import Derived.ProofKit
import Derived.OpenShut
import Derived.ShutString
import Derived.ChangeOld
import Derived.Below
import Derived.Test.YtgbfpolcefhemaaOpen
import Derived.Test.YtgbfpolcefhemaaRead7
namespace Go.Proofs.Ytgbfpolcefhemaa.bodyNil
open Go.ChangeShapes Go.WideShapes Go.ChangeAt Go.RowKit
open Go.ChangeMaps (open_string shut_string)
set_option linter.unusedVariables false
set_option linter.unusedSimpArgs false

set_option maxRecDepth 100000 in
set_option maxHeartbeats 1000000 in
theorem walk (x : Th) (w : World) (hx : ThIn w w.heap.size x) (hc : x.c ≤ 140737488351232) :
    Calls Try.prog 5 #[.agg #[.int .i64 x.kind, .int .u64 (x.n : Int), .bool x.t, .int .u32 (x.r : Int), .int .u16 (x.p.i : Int), .int .u32 (x.p.k : Int), .slice x.A x.m x.c, .slice x.B x.d x.e, .int .i64 x.most]] w fun e w' => e = .returned (.bool true) ∧ Below w.heap.size w w' := by
  have hb1 : Below w.heap.size w (w.alloc (.cells #[.int .i64 x.kind, .int .u64 (x.n : Int), .bool x.t, .int .u32 (x.r : Int), .int .u16 (x.p.i : Int), .int .u32 (x.p.k : Int), .slice x.A x.m x.c, .slice x.B x.d x.e, .int .i64 x.most] 39)) := (Below.refl _ _).alloc (Nat.le_refl _) _
  have hT := ThAt.new w x
  have hmc := hx.mc
  have hde := hx.de
  have hre := hx.room2
  unfold maxLen at hre
  obtain ⟨w1, hw1⟩ : ∃ w1, w1 = (w.alloc (.cells #[.int .i64 x.kind, .int .u64 (x.n : Int), .bool x.t, .int .u32 (x.r : Int), .int .u16 (x.p.i : Int), .int .u32 (x.p.k : Int), .slice x.A x.m x.c, .slice x.B x.d x.e, .int .i64 x.most] 39)) := ⟨_, rfl⟩
  by_cases h1 : 1000 < x.d
  · have t1 : ((x.d : Int) > 1000) = True := by simp; omega
    go_enter Try.func5, Try.ntmps5
    go_wp2_with fail
    refine (awake7_any _).mono ?_
    rintro e w' ⟨rfl, hb⟩
    have hbz := hb1.trans (hb.mono (by simp))
    go_wp2
    go_ret
    exact ⟨rfl, hbz⟩
  · have t1 : ((x.d : Int) > 1000) = False := by simp; omega
    have hx1 := hx.below hb1
    have cl := fun W (hW : w.heap.size ≤ W.heap.size) (h : ThIn W w.heap.size x) => lay7_none w.heap.size x W hW h (by omega) (by omega)
    have cr := fun W y (hy : RrAt W y) (h : ThIn W w.heap.size x) => read7_none y x w.heap.size W hy h
    go_enter Try.func5, Try.ntmps5
    go_wp2_with fail
    rw [← hw1] at hb1 hT hx1 ⊢
    clear hw1
    have hs1 := hb1.size
    refine (cl w1 hs1 hx1).mono ?_
    rintro e w2 ⟨⟨v, rfl⟩, hb2⟩
    have hb12 := hb1.trans (hb2.mono hs1)
    have hT2 := hT.later hb2
    have hx2 := hx.below hb12
    have hs2 := hb12.size
    clear cl hb2 hb1 hT hx1
    go_wp2_with fail
    refine (wdone_none w2).mono ?_
    rintro e w' ⟨rfl, rfl⟩
    have hb3 : Below w2.heap.size w2 (w2.alloc (.cells #[.slice none 0 0, .int .i64 2] 57)) := (Below.refl _ _).alloc (Nat.le_refl _) _
    have hy : RrAt (w2.alloc (.cells #[.slice none 0 0, .int .i64 2] 57)) w2.heap.size := heap_alloc_new w2 _
    have hT3 := hT2.later hb3
    have hb13 := hb12.trans (hb3.mono hs2)
    have hx3 := hx.below hb13
    obtain ⟨f0, f1, f2, f3, f4, f5, f6, f7, f8⟩ := hT3.cells
    clear hT2 hb3 hx2 hT3
    go_wp2_with fail
    refine (cr _ _ hy hx3).mono ?_
    rintro e w4 ⟨rfl, hb4⟩
    have hb14 := hb13.trans (hb4.mono hb13.size)
    clear cr hy hb4 hb13 hb12 f0 f1 f2 f3 f4 f5 f6 f7 f8
    go_wp2_with fail
    refine (left_none w4).mono ?_
    rintro e w' ⟨rfl, rfl⟩
    go_wp2_with fail
    refine (err_none w4).mono ?_
    rintro e w' ⟨rfl, rfl⟩
    go_wp2_with fail
    refine (rdend_none w4).mono ?_
    rintro e w' ⟨rfl, rfl⟩
    go_wp2_with fail
    refine (awake7_any w4).mono ?_
    rintro e w5 ⟨rfl, hb5⟩
    have hbz := hb14.trans (hb5.mono hb14.size)
    go_wp2
    go_ret
    exact ⟨rfl, hbz⟩

/-! ### THE ROW's STEP -/
set_option maxRecDepth 100000 in
theorem lifted (os : Os) (started : os.Started) (H : Type) (enc : TypeId × Value → H) :
    ReturnsInHanded {} Try.checked os 5 .any (Rows.bodyNilSpec.pre6 enc Try.prog Try.f5 Rows.bodyNilRow.domain false) (Rows.bodyNilSpec.post enc Try.prog Try.f5 false true false false) := by
  refine returnsInHanded_of_change_sized (C := Try.checked) own started (by kernel_rfl) Try.func5
    (ChangeSpec.witness6 (enc := enc) (C := Try.checked) false ⟨#[], #[.agg #[.int .i64 0, .int .u64 0, .bool false, .int .u32 0, .int .u16 0, .int .u32 0, .slice none 0 0, .slice none 0 0, .int .i64 0]], []⟩ 8 (by kernel_rfl) (by kernel_rfl) (by kernel_rfl) (by kernel_rfl)) ?_
  intro W base args ds gs before hval0 hW hcnd hsz0 _
  have hsz : (DataW.weightsEach Try.prog (Try.f5.params.toList ++ Rows.bodyNilSpec.plain.varTypes Try.prog) (ds ++ gs)).all (· ≤ reachBytes) = true := hsz0
  clear hsz0
  have hval : ∀ (j : Nat) t v, Try.f5.params[j]? = some t → args[j]? = some v → Value.okWide Try.prog W .any base t v := hval0
  have hW' := hW
  obtain ⟨p, q, hA0, hV, rfl, hfz, hnd⟩ := hW
  have hA : DataW.TrodAll enc Try.prog W 0 (fun _ => true) true Try.f5.params.toList args.toList ds p := hA0
  rw [Try.params5] at hA hval hsz
  obtain ⟨v0, vs0, d0, ds0, p0, q0, hargs, rfl, rfl, h0, r0⟩ := trodAll_cons hA
  obtain ⟨rfl, rfl, rfl⟩ := trodAll_nil r0
  obtain rfl : args = #[v0] := by cases args; simp_all
  obtain ⟨rfl, rfl⟩ := trodVars_none hV
  have k0 := h0
  have lt0 : ∀ x ∈ p0, x.block < W.heap.size := by obtain ⟨m, hm⟩ := k0; exact DataW.trod_lt m _ _ _ hm
  obtain ⟨x0, rfl, hx0⟩ := open_thing (hval 0 39 v0 rfl rfl) h0
  have hr0 : x0.c ≤ 140737488351232 := by
    obtain ⟨fuel, hf⟩ := k0
    exact thing_room (y := x0) hf fun m hm => by
      have := List.all_eq_true.1 hsz _ (DataW.weights_mem_each (j := 0) rfl rfl m hm)
      simpa using this
  clear hA0 hval0
  refine (walk x0 W hx0 hr0).mono fun e W' ⟨he, bel⟩ => ?_
  subst he
  exact ⟨_, rfl, _, _, _, [], _, [], hW', trodAll_mk1 (shut_bool Try.underlying4 _), (trodAll_cons_mk (Below.trod laidOut (by kernel_rfl) (of_decide_eq_true (by kernel_rfl)) k0 bel lt0) trodAll_mk0), rfl, bel.frame _, fun h => by cases h⟩

theorem over : Rows.bodyNilRow.holds Try.pinned (OpenSpec.ofChange Rows.bodyNilSpec) :=
  OpenClaim.holds_of_wide 5 Try.f5 rfl rfl rfl rfl rfl rfl rfl ⟨rfl, rfl, rfl, rfl, rfl⟩ rfl rfl rfl rfl rfl (by kernel_rfl) Try.func5 (by kernel_rfl)
    (of_decide_eq_true (by kernel_rfl)) (by unfold Func.isWrapper; first | (rw [if_pos (by decide +kernel)]; kernel_rfl) | (rw [if_neg (by decide +kernel)]; exact ⟨rfl, rfl⟩))
    (fun os started H enc _ => lifted os started H enc)

theorem proved : Rows.BodyNilSaid := over
#print axioms proved
end Go.Proofs.Ytgbfpolcefhemaa.bodyNil
