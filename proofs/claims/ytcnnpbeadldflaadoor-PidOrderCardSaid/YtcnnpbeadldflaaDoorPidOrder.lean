/-
  The law choraguslaw03.PidOrder answers true, and does not panic, for every argument that its row allows; its card ties what the row lists to the program's text. Conditions: none but the row's own.
-/
import Derived.Test.YtcnnpbeadldflaaDoorCards
import Derived.Test.YtcnnpbeadldflaaDoorTie
import Derived.WalkKit
import Derived.ProofKit
import Derived.OpenShut
import Derived.ShutString
import Derived.ChangeOld
import Derived.Below
import Derived.Deep.DeepHandedRow
import Derived.Deep.DeepWitnessRowRef
import Derived.Lib.LaidTab
import Derived.LaidMore
import Derived.Test.YtcnnpbeadldflaaDoorOpen
import Derived.Test.YtcnnpbeadldflaaDoorOpenP
import Derived.Test.YtcnnpbeadldflaaDoorPid2
namespace Go.Proofs.YtcnnpbeadldflaaDoor.pidOrder
open Go.ChangeShapes Go.WideShapes Go.ChangeAt Go.RowKit
open Go.ChangeMaps (open_string shut_string)
set_option linter.unusedVariables false
set_option linter.unusedSimpArgs false

set_option maxRecDepth 100000 in
theorem before_next (r i c j d : Nat) : beforeB r i c (r + 1) j d = true := by
  rw [beforeB, if_neg (by omega)]
  exact decide_eq_true (by omega)
set_option maxRecDepth 100000 in
theorem walk (r i c s j d : Nat) (w : World) (hr : r < 4294967296) (hi : i < 65536) (hc : c < 4294967296) (_s : s < 4294967296) (hj : j < 65536) (hd : d < 4294967296) :
    Calls Tryd.prog 3 #[.agg #[.int .u32 (r : Int), .int .u16 (i : Int), .int .u32 (c : Int)], .agg #[.int .u32 (s : Int), .int .u16 (j : Int), .int .u32 (d : Int)]] w
      fun e w' => e = .returned (.bool true) ∧ Below w.heap.size w w' := by
  have ca := fun W => ahead_any i c j d W hi hc hj hd
  have cra := fun W => rahead_any i c j d W hi hc hj hd
  have cb := fun W => before_any r i c s j d W hi hc hj hd
  have crb := fun W => rbefore_any r i c s j d W hi hc hj hd
  generalize aheadB i c j d = xa at *
  generalize beforeB r i c s j d = xb at *
  have t1 : (xa != xa) = false := by simp
  have t2 : (xb != xb) = false := by simp
  go_enter Tryd.func3, Tryd.ntmps3
  go_wp2
  obtain ⟨W1, hW1⟩ : ∃ W1 : World, W1 = ((w.alloc (.cells #[.int .u32 (r : Int), .int .u16 (i : Int), .int .u32 (c : Int)] 27)).alloc (.cells #[.int .u32 (s : Int), .int .u16 (j : Int), .int .u32 (d : Int)] 27)) := ⟨_, rfl⟩
  rw [← hW1]
  have a0 := Later.cell (w0 := W1) (b := w.heap.size) (o := 0) (v := .int .u32 (r : Int)) (by rw [hW1]; go_simp)
  have a1 := Later.cell (w0 := W1) (b := w.heap.size) (o := 1) (v := .int .u16 (i : Int)) (by rw [hW1]; go_simp)
  have a2 := Later.cell (w0 := W1) (b := w.heap.size) (o := 2) (v := .int .u32 (c : Int)) (by rw [hW1]; go_simp)
  have b0 := Later.cell (w0 := W1) (b := w.heap.size + 1) (o := 0) (v := .int .u32 (s : Int)) (by rw [hW1]; go_simp)
  have b1 := Later.cell (w0 := W1) (b := w.heap.size + 1) (o := 1) (v := .int .u16 (j : Int)) (by rw [hW1]; go_simp)
  have b2 := Later.cell (w0 := W1) (b := w.heap.size + 1) (o := 2) (v := .int .u32 (d : Int)) (by rw [hW1]; go_simp)
  have hb : Below w.heap.size w W1 := by rw [hW1]; exact ((Below.refl _ _).alloc (Nat.le_refl _) _).alloc (by simp) _
  clear hW1
  have ka := fun x : Later W1 => calm_of (ca x.w)
  have kra := fun x : Later W1 => calm_of (cra x.w)
  have kb := fun x : Later W1 => calm_of (cb x.w)
  have krb := fun x : Later W1 => calm_of (crb x.w)
  clear ca cra cb crb
  refine wp_region_calm (by kernel_rfl) (by kernel_rfl) ?_
  repeat (go_big_quiet_step ((first | with_reducible exact ka _ | with_reducible exact kra _ | with_reducible exact kb _ | with_reducible exact krb _)))
  refine wpQuiet_nil ?_
  rintro _ ⟨x9, rfl⟩
  clear ka kra kb krb
  by_cases hm : r < 4294967295
  · have hne : ((r : Int) == 4294967295) = false := by simp; omega
    have hz9 := x9.below
    go_wp2_with fail
    refine (next_any r i c j d _ hm hj hd).mono ?_
    rintro e w1 ⟨rfl, hb1⟩
    have A0 : w1.cell? ⟨w.heap.size, 0, none⟩ = some (.int .u32 (r : Int)) := (hb1.cell (World.block_lt_of_cell? _ _ (a0 x9))).trans (a0 x9)
    have A1 : w1.cell? ⟨w.heap.size, 1, none⟩ = some (.int .u16 (i : Int)) := (hb1.cell (World.block_lt_of_cell? _ _ (a1 x9))).trans (a1 x9)
    have A2 : w1.cell? ⟨w.heap.size, 2, none⟩ = some (.int .u32 (c : Int)) := (hb1.cell (World.block_lt_of_cell? _ _ (a2 x9))).trans (a2 x9)
    have B0 : w1.cell? ⟨w.heap.size + 1, 0, none⟩ = some (.int .u32 (s : Int)) := (hb1.cell (World.block_lt_of_cell? _ _ (b0 x9))).trans (b0 x9)
    have B1 : w1.cell? ⟨w.heap.size + 1, 1, none⟩ = some (.int .u16 (j : Int)) := (hb1.cell (World.block_lt_of_cell? _ _ (b1 x9))).trans (b1 x9)
    have B2 : w1.cell? ⟨w.heap.size + 1, 2, none⟩ = some (.int .u32 (d : Int)) := (hb1.cell (World.block_lt_of_cell? _ _ (b2 x9))).trans (b2 x9)
    have hbx := hb.trans ((hz9.trans (hb1.mono hz9.size)).mono hb.size)
    clear a0 a1 a2 b0 b1 b2 hb1 hz9 hb
    have t3 : ((r : Int) + 1 == (r : Int) + 1) = true := by simp
    have l1 : w.heap.size + 1 < w1.heap.size := World.block_lt_of_cell? _ _ B0
    have l0 : w.heap.size < w1.heap.size := by omega
    have cn : ∀ W, Calls Tryd.prog 10 #[.agg #[.int .u32 (r : Int), .int .u16 (i : Int), .int .u32 (c : Int)], .agg #[.int .u32 ((r : Int) + 1), .int .u16 (j : Int), .int .u32 (d : Int)]] W fun e w' => e = .returned (.bool true) ∧ Below W.heap.size W w' := fun W => by
      have h := before_any r i c (r + 1) j d W hi hc hj hd
      rw [before_next] at h
      exact h
    go_wp2_with fail
    refine (cn _).mono ?_
    rintro e w2 ⟨rfl, hb2⟩
    have hby := (hbx.alloc (by omega) _).trans (hb2.mono (by simp; omega))
    clear hb2 cn
    go_wp2_with fail
    refine (awake3_any _).mono ?_
    rintro e w3 ⟨rfl, hb3⟩
    have hbz := hby.trans (hb3.mono hby.size)
    clear hb3 hby hbx
    go_wp2
    go_ret
    exact ⟨rfl, hbz⟩
  · obtain rfl : r = 4294967295 := by omega
    have hz9 := x9.below
    go_wp2_with fail
    refine (next_no i c j d _).mono ?_
    rintro e w1 ⟨rfl, hb1⟩
    have A0 : w1.cell? ⟨w.heap.size, 0, none⟩ = some (.int .u32 (4294967295 : Int)) := (hb1.cell (World.block_lt_of_cell? _ _ (a0 x9))).trans (a0 x9)
    have hbx := hb.trans ((hz9.trans (hb1.mono hz9.size)).mono hb.size)
    clear a0 a1 a2 b0 b1 b2 hb1 hz9 hb
    have l0 : w.heap.size < w1.heap.size := World.block_lt_of_cell? _ _ A0
    go_wp2_with fail
    refine (awake3_any _).mono ?_
    rintro e w3 ⟨rfl, hb3⟩
    have hbz := (hbx.alloc (by omega) _).trans (hb3.mono (by simp; omega))
    clear hb3 hbx
    go_wp2
    go_ret
    exact ⟨rfl, hbz⟩

/-! ### THE ROW's STEP, AND THE CARD -/
set_option maxRecDepth 100000 in
/-- What the walk gives, for every argument and every world that holds what the row lists. -/
theorem contract (H : Type) (enc : TypeId × Value → H) (W : World) (base : Nat) (args : Array Value) (ds gs : List (DataW H)) (before : List MemPlace)
    (hval : ∀ (j : Nat) t v, Tryd.f3.params[j]? = some t → args[j]? = some v → Value.okWide Tryd.prog W .any base t v)
    (hW : DataW.Whole enc Tryd.prog Tryd.f3.params.toList Rows.pidOrderSpec.vars false W args.toList ds gs before)
    (_hsz : (DataW.weightsEach Tryd.prog (Tryd.f3.params.toList ++ (OpenSpec.ofChange Rows.pidOrderSpec).bare.plain.varTypes Tryd.prog) (ds ++ gs)).all (· ≤ reachBytes) = true)
    (_hL : laidMetH Tryd.prog Rows.pidOrderRow.laid W) :
    Calls Tryd.prog 3 args W fun e W' => ∃ v, e = .returned v ∧ Rows.pidOrderSpec.post enc Tryd.prog Tryd.f3 false true false false W args v W' := by
  have hW' := hW
  obtain ⟨p, q, hA0, hV, rfl, hfz, hnd⟩ := hW
  have hA : DataW.TrodAll enc Tryd.prog W 0 (fun _ => true) true Tryd.f3.params.toList args.toList ds p := hA0
  rw [Tryd.params3] at hA hval _hsz
  obtain ⟨v0, vs0, d0, ds0, p0, q0, hargs, rfl, rfl, h0, r0⟩ := trodAll_cons hA
  obtain ⟨v1, vs1, d1, ds1, p1, q1, rfl, rfl, rfl, h1, r1⟩ := trodAll_cons r0
  obtain ⟨rfl, rfl, rfl⟩ := trodAll_nil r1
  obtain rfl : args = #[v0, v1] := by cases args; simp_all
  obtain ⟨rfl, rfl⟩ := trodVars_none hV
  have k0 := h0
  have lt0 : ∀ x ∈ p0, x.block < W.heap.size := by obtain ⟨m, hm⟩ := k0; exact DataW.trod_lt m _ _ _ hm
  obtain ⟨s0, i0, c0, rfl, hs0, hi0, hc0⟩ := open_ballot (hval 0 27 v0 rfl rfl) h0
  have k1 := h1
  have lt1 : ∀ x ∈ p1, x.block < W.heap.size := by obtain ⟨m, hm⟩ := k1; exact DataW.trod_lt m _ _ _ hm
  obtain ⟨s1, i1, c1, rfl, hs1, hi1, hc1⟩ := open_ballot (hval 1 27 v1 rfl rfl) h1
  clear hA0
  refine (walk s0 i0 c0 s1 i1 c1 W hs0 hi0 hc0 hs1 hi1 hc1).mono fun e W' ⟨he, bel⟩ => ?_
  subst he
  exact ⟨_, rfl, _, _, _, [], _, [], hW', trodAll_mk1 (shut_bool Tryd.underlying4 _), (trodAll_cons_mk (Below.trod laidOut (by kernel_rfl) (of_decide_eq_true (by kernel_rfl)) k0 bel lt0) (trodAll_cons_mk (Below.trod laidOut (by kernel_rfl) (of_decide_eq_true (by kernel_rfl)) k1 bel lt1) trodAll_mk0)), rfl, bel.frame _, fun h => by cases h⟩

/-- A world for the witness: what the door's own run leaves. -/
theorem laid_met (os : Os) : laidMet Tryd.prog Rows.pidOrderRow.laid (((World.doorLaid Tryd.prog 400 os)).forCall (fun _ _ => 0) ⟨#[], #[.agg #[.int .u32 0, .int .u16 0, .int .u32 0], .agg #[.int .u32 0, .int .u16 0, .int .u32 0]], []⟩).memory :=
  laidMet_of_run' 8 (by kernel_rfl) (by kernel_rfl)
theorem reads (os : Os) {H : Type} (enc : TypeId × Value → H) : ∃ places, DataW.whole enc Tryd.prog (((World.doorLaid Tryd.prog 400 os)).forCall (fun _ _ => 0) ⟨#[], #[.agg #[.int .u32 0, .int .u16 0, .int .u32 0], .agg #[.int .u32 0, .int .u16 0, .int .u32 0]], []⟩).memory Tryd.f3.params.toList Rows.pidOrderSpec.vars false (#[.agg #[.int .u32 0, .int .u16 0, .int .u32 0], .agg #[.int .u32 0, .int .u16 0, .int .u32 0]] : Array Value).toList 8 = some ([.agg [.lit (.int .u32 0), .agg [.lit (.int .u16 0), .lit (.int .u32 0)]], .agg [.lit (.int .u32 0), .agg [.lit (.int .u16 0), .lit (.int .u32 0)]]], [], places) :=
  ⟨[], by kernel_rfl⟩
set_option maxRecDepth 100000 in
theorem lifted (os : Os) (started : os.Started) (H : Type) (enc : TypeId × Value → H) (F : Stop.Interp) :
    ReturnsInHanded {} Tryd.checked os 3 .any ((OpenSpec.ofChange Rows.pidOrderSpec).preRow enc Tryd.prog Tryd.f3 Rows.pidOrderRow.domain false Rows.pidOrderRow.laid) (((OpenSpec.ofChange Rows.pidOrderSpec).at F).post enc Tryd.prog Tryd.f3 false true false false) := by
  obtain ⟨places, hx⟩ := reads os enc
  refine returnsInHanded_of_row (C := Tryd.checked) (s := OpenSpec.ofChange Rows.pidOrderSpec) own started (by kernel_rfl) Tryd.func3
    (witness_row_atRef (enc := enc) (C := Tryd.checked) false (World.doorLaid Tryd.prog 400 os) #[.agg #[.int .u32 0, .int .u16 0, .int .u32 0], .agg #[.int .u32 0, .int .u16 0, .int .u32 0]] rfl (by kernel_rfl) (by kernel_rfl) (by kernel_rfl)
      (OpenSpec.preRow_of_cond 8 hx (by kernel_rfl) (fun k hk => by cases hk) (by kernel_rfl) (laid_met os))) ?_
  intro W base args ds gs before hval hW _ _ hsz hL _ _
  exact contract H enc W base args ds gs before hval hW hsz hL
theorem said : Rows.PidOrderSaid :=
  OpenClaim.holds_of_cond 3 Tryd.f3 rfl rfl rfl rfl rfl rfl rfl ⟨rfl, rfl, rfl, rfl, rfl⟩ rfl rfl rfl rfl rfl (by kernel_rfl) Tryd.func3 (by kernel_rfl)
    (of_decide_eq_true (by kernel_rfl)) (by unfold Func.isWrapper; first | (rw [if_pos (by decide +kernel)]; kernel_rfl) | (rw [if_neg (by decide +kernel)]; exact ⟨rfl, rfl⟩))
    (fun os started H enc _ F => by rw [OpenClaim.pre_eq_preRow]; exact lifted os started H enc F)
theorem proved : Rows.PidOrderCardSaid :=
  Claim7.holds_tied_plain_at .later [] _ _ _ _ said (fun _ h => by cases h) (by kernel_rfl) (fun _ h => by cases h) pidOrder_row_tie rfl ⟨rfl, rfl⟩ (by kernel_rfl) rfl
    (fun f fn hf hfn => by
      obtain rfl : f = 3 := Option.some.inj ((show Tryd.prog.funcNamed "choragus/choraguslaw03.PidOrder" = some 3 by kernel_rfl).symm.trans hf) |>.symm
      obtain rfl : fn = Tryd.f3 := (Option.some.inj (Tryd.func3.symm.trans hfn)).symm
      exact ⟨by kernel_rfl, fun j t ht => by
        rw [Tryd.params3] at ht
        have hm : t ∈ [27, 27] := by simpa using Array.mem_of_getElem? ht
        have hall : ([27, 27].all fun u => !Tryd.prog.wantsStandIn u) = true := by kernel_rfl
        exact (show Tryd.prog.wantsStandIn t = false by simpa using List.all_eq_true.1 hall t hm)⟩)
    (by kernel_rfl)
#print axioms proved
end Go.Proofs.YtcnnpbeadldflaaDoor.pidOrder
