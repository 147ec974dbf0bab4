/-
  The law choraguslaw03.PidSorts answers true, and does not panic, for every argument that its row allows; its card ties what the row lists to the program's text. Conditions: none but the row's own.
-/
import Derived.Test.YtcnnpbeadldflaaDoorCards
import Derived.Test.YtcnnpbeadldflaaDoorTie
import Derived.WalkKit
import Derived.ProofKit
import Derived.OpenShut
import Derived.ShutString
import Derived.ChangeOld
import Derived.Below
import Derived.Deep.DeepHandedRow
import Derived.Deep.DeepWitnessRowRef
import Derived.Lib.LaidTab
import Derived.LaidMore
import Derived.Test.YtcnnpbeadldflaaDoorOpen
import Derived.Test.YtcnnpbeadldflaaDoorOpenP
import Derived.Test.YtcnnpbeadldflaaDoorPid2
import Derived.Test.YtcnnpbeadldflaaDoorSort5
namespace Go.Proofs.YtcnnpbeadldflaaDoor.pidSorts
open Go.ChangeShapes Go.WideShapes Go.ChangeAt Go.RowKit
open Go.ChangeMaps (open_string shut_string)
set_option linter.unusedVariables false
set_option linter.unusedSimpArgs false

theorem own_none (w : World) : OwnP (w.alloc (.cells #[] 25)) w.heap.size (.slice (some ⟨w.heap.size, 0, none⟩) 0 0) 0 [] :=
  ⟨rfl, .inr ⟨w.heap.size, 0, #[], rfl, Nat.le_refl _, heap_alloc_new w _, Nat.le_refl _, by decide, rfl, rfl⟩⟩
set_option maxRecDepth 100000 in
theorem walk (A : Option Addr) (n c : Nat) (l : List Pr) (w : World) (w0 : Ps0 w A n c l) :
    Calls Tryd.prog 6 #[.slice A n c] w fun e w' => e = .returned (.bool true) ∧ Below w.heap.size w w' := by
  obtain ⟨hA, hnc, hcm⟩ := w0
  unfold maxLen at hcm
  by_cases h3 : 300 < n
  · go_enter Tryd.func6, Tryd.ntmps6
    go_wp2_with fail
    refine (awake3_any _).mono ?_
    rintro e w' ⟨rfl, hb⟩
    go_wp2
    go_ret
    exact ⟨rfl, hb⟩
  · have hn3 : n ≤ 300 := by omega
    have hlen := hA.len
    have hsl := sortP_len l
    rw [hlen] at hsl
    obtain ⟨q, hq⟩ : ∃ q, q = (sortP l).length := ⟨_, rfl⟩
    rw [← hq] at hsl
    have cs := fun W A' c' (h : Es prC W W.heap.size A' n l) => psort_any A' n c' l W.heap.size W h (Nat.le_refl _) (by omega)
    have cr := fun W (h : Es prC W W.heap.size A n l) => rsort_any A n c l W.heap.size W h (Nat.le_refl _) (by omega)
    unfold MakesP at cs cr
    rw [← hq] at cs cr
    obtain ⟨i0, hi, hz0, hz1, hz2⟩ := info_parts info_pid
    clear hlen hq
    go_enter Tryd.func6, Tryd.ntmps6
    go_wp2_with (at_builtin; refine wp_append_e _ rfl (.tmp 8) (.tmp 9) 41 rfl 25 i0 _ 8 Tryd.underlying41 hi hz0 hz1 hz2 rfl prOk w.heap.size 0 _ [] rfl (own_none w) w.heap.size _ n c l rfl (hA.alloc (Nat.le_refl _) _) (by unfold maxLen; omega) (by omega) w.heap.size w ((Below.refl _ _).alloc (Nat.le_refl _) _) (Nat.le_refl _) (by simp) ?_; intro A2 c2 w1 r1 r2 r3 r4; rw [Nat.zero_add, List.nil_append] at r1; rw [Nat.zero_add]; refine Hid.out ?_)
    refine Lib.hid ?_
    have ho1 : OwnP w1 w.heap.size (.slice A2 n c2) n l := r1
    clear r1 r3 r4
    have hb1 := r2
    clear r2
    go_wp2_with fail
    refine (cs w1 _ _ (OwnE.es prOk ho1)).mono ?_
    rintro e w2 ⟨A3, c3, rfl, ho2, hb2⟩
    have ho12 := OwnE.later ho1 hb2
    have hb02 := hb1.trans (hb2.mono hb1.size)
    have hA2 := (hA.below hb02).more (B' := w2.heap.size) hb02.size
    clear cs ho1 hb1 hb2
    go_wp2_with fail
    refine (cr w2 hA2).mono ?_
    rintro e w3 ⟨A4, c4, rfl, ho3, hb3⟩
    have ho13 := OwnE.later ho12 hb3
    have ho23 := OwnE.later ho2 hb3
    have hb03 := hb02.trans (hb3.mono hb02.size)
    clear cr ho12 ho2 hb02 hb3 hA2
    have cm := samep_eq _ _ _ _ c3 c4 _ _ _ _ w3 (OwnE.es prOk ho23) (OwnE.es prOk ho3) (by unfold maxLen; omega) rfl
    clear ho23 ho3
    go_wp2_with fail
    refine cm.mono ?_
    rintro e w4 ⟨rfl, hd⟩
    have hb4 := drawn_below hd (B := w3.heap.size)
    have ho14 := OwnE.later ho13 hb4
    have hb04 := hb03.trans (hb4.mono hb03.size)
    have cm2 := samep_eq _ _ _ _ c2 c _ _ _ _ w4 (OwnE.es prOk ho14) (hA.below hb04) (by unfold maxLen; omega) rfl
    clear ho13 ho14 hb4 hd cm hb03
    go_wp2_with fail
    refine cm2.mono ?_
    rintro e w5 ⟨rfl, hd⟩
    have hb05 := hb04.trans (drawn_below hd (B := w.heap.size))
    clear hd cm2 hb04
    go_wp2_with fail
    refine (awake3_any _).mono ?_
    rintro e w6 ⟨rfl, hb⟩
    have hbz := hb05.trans (hb.mono hb05.size)
    clear hb05 hb
    go_wp2
    go_ret
    exact ⟨rfl, hbz⟩

/-! ### THE ROW's STEP, AND THE CARD -/
set_option maxRecDepth 100000 in
/-- What the walk gives, for every argument and every world that holds what the row lists. -/
theorem contract (H : Type) (enc : TypeId × Value → H) (W : World) (base : Nat) (args : Array Value) (ds gs : List (DataW H)) (before : List MemPlace)
    (hval : ∀ (j : Nat) t v, Tryd.f6.params[j]? = some t → args[j]? = some v → Value.okWide Tryd.prog W .any base t v)
    (hW : DataW.Whole enc Tryd.prog Tryd.f6.params.toList Rows.pidSortsSpec.vars false W args.toList ds gs before)
    (_hsz : (DataW.weightsEach Tryd.prog (Tryd.f6.params.toList ++ (OpenSpec.ofChange Rows.pidSortsSpec).bare.plain.varTypes Tryd.prog) (ds ++ gs)).all (· ≤ reachBytes) = true)
    (_hL : laidMetH Tryd.prog Rows.pidSortsRow.laid W) :
    Calls Tryd.prog 6 args W fun e W' => ∃ v, e = .returned v ∧ Rows.pidSortsSpec.post enc Tryd.prog Tryd.f6 false true false false W args v W' := by
  have hW' := hW
  obtain ⟨p, q, hA0, hV, rfl, hfz, hnd⟩ := hW
  have hA : DataW.TrodAll enc Tryd.prog W 0 (fun _ => true) true Tryd.f6.params.toList args.toList ds p := hA0
  rw [Tryd.params6] at hA hval _hsz
  obtain ⟨v0, vs0, d0, ds0, p0, q0, hargs, rfl, rfl, h0, r0⟩ := trodAll_cons hA
  obtain ⟨rfl, rfl, rfl⟩ := trodAll_nil r0
  obtain rfl : args = #[v0] := by cases args; simp_all
  obtain ⟨rfl, rfl⟩ := trodVars_none hV
  have k0 := h0
  have lt0 : ∀ x ∈ p0, x.block < W.heap.size := by obtain ⟨m, hm⟩ := k0; exact DataW.trod_lt m _ _ _ hm
  obtain ⟨a0, len0, cap0, rfl⟩ := okWide_slice Tryd.underlying41 (hval 0 41 v0 rfl rfl)
  obtain ⟨z0, w0⟩ : ∃ l, Ps0 W a0 len0 cap0 l := by
    obtain ⟨fuel, hf⟩ := h0
    exact pids_row (open_pids hf) rfl
  clear hA0
  refine (walk a0 len0 cap0 z0 W w0).mono fun e W' ⟨he, bel⟩ => ?_
  subst he
  exact ⟨_, rfl, _, _, _, [], _, [], hW', trodAll_mk1 (shut_bool Tryd.underlying4 _), (trodAll_cons_mk (Below.trod laidOut (by kernel_rfl) (of_decide_eq_true (by kernel_rfl)) k0 bel lt0) trodAll_mk0), rfl, bel.frame _, fun h => by cases h⟩

/-- A world for the witness: what the door's own run leaves. -/
theorem laid_met (os : Os) : laidMet Tryd.prog Rows.pidSortsRow.laid (((World.doorLaid Tryd.prog 400 os)).forCall (fun _ _ => 0) ⟨#[], #[.slice none 0 0], []⟩).memory :=
  laidMet_of_run' 8 (by kernel_rfl) (by kernel_rfl)
theorem reads (os : Os) {H : Type} (enc : TypeId × Value → H) : ∃ places, DataW.whole enc Tryd.prog (((World.doorLaid Tryd.prog 400 os)).forCall (fun _ _ => 0) ⟨#[], #[.slice none 0 0], []⟩).memory Tryd.f6.params.toList Rows.pidSortsSpec.vars false (#[.slice none 0 0] : Array Value).toList 8 = some ([.nil], [], places) :=
  ⟨[], by kernel_rfl⟩
set_option maxRecDepth 100000 in
theorem lifted (os : Os) (started : os.Started) (H : Type) (enc : TypeId × Value → H) (F : Stop.Interp) :
    ReturnsInHanded {} Tryd.checked os 6 .any ((OpenSpec.ofChange Rows.pidSortsSpec).preRow enc Tryd.prog Tryd.f6 Rows.pidSortsRow.domain false Rows.pidSortsRow.laid) (((OpenSpec.ofChange Rows.pidSortsSpec).at F).post enc Tryd.prog Tryd.f6 false true false false) := by
  obtain ⟨places, hx⟩ := reads os enc
  refine returnsInHanded_of_row (C := Tryd.checked) (s := OpenSpec.ofChange Rows.pidSortsSpec) own started (by kernel_rfl) Tryd.func6
    (witness_row_atRef (enc := enc) (C := Tryd.checked) false (World.doorLaid Tryd.prog 400 os) #[.slice none 0 0] rfl (by kernel_rfl) (by kernel_rfl) (by kernel_rfl)
      (OpenSpec.preRow_of_cond 8 hx (by kernel_rfl) (fun k hk => by cases hk) (by kernel_rfl) (laid_met os))) ?_
  intro W base args ds gs before hval hW _ _ hsz hL _ _
  exact contract H enc W base args ds gs before hval hW hsz hL
theorem said : Rows.PidSortsSaid :=
  OpenClaim.holds_of_cond 6 Tryd.f6 rfl rfl rfl rfl rfl rfl rfl ⟨rfl, rfl, rfl, rfl, rfl⟩ rfl rfl rfl rfl rfl (by kernel_rfl) Tryd.func6 (by kernel_rfl)
    (of_decide_eq_true (by kernel_rfl)) (by unfold Func.isWrapper; first | (rw [if_pos (by decide +kernel)]; kernel_rfl) | (rw [if_neg (by decide +kernel)]; exact ⟨rfl, rfl⟩))
    (fun os started H enc _ F => by rw [OpenClaim.pre_eq_preRow]; exact lifted os started H enc F)
theorem proved : Rows.PidSortsCardSaid :=
  Claim7.holds_tied_plain_at .later [] _ _ _ _ said (fun _ h => by cases h) (by kernel_rfl) (fun _ h => by cases h) pidSorts_row_tie rfl ⟨rfl, rfl⟩ (by kernel_rfl) rfl
    (fun f fn hf hfn => by
      obtain rfl : f = 6 := Option.some.inj ((show Tryd.prog.funcNamed "choragus/choraguslaw03.PidSorts" = some 6 by kernel_rfl).symm.trans hf) |>.symm
      obtain rfl : fn = Tryd.f6 := (Option.some.inj (Tryd.func6.symm.trans hfn)).symm
      exact ⟨by kernel_rfl, fun j t ht => by
        rw [Tryd.params6] at ht
        have hm : t ∈ [41] := by simpa using Array.mem_of_getElem? ht
        have hall : ([41].all fun u => !Tryd.prog.wantsStandIn u) = true := by kernel_rfl
        exact (show Tryd.prog.wantsStandIn t = false by simpa using List.all_eq_true.1 hall t hm)⟩)
    (by kernel_rfl)
#print axioms proved
end Go.Proofs.YtcnnpbeadldflaaDoor.pidSorts
