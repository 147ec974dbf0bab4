/-
  The law choraguslaw03.PidStrict answers true, and does not panic, for every argument that its row allows; its card ties what the row lists to the program's text. Conditions: none but the row's own.
-/
import Derived.Test.YtcnnpbeadldflaaDoorCards
import Derived.Test.YtcnnpbeadldflaaDoorTie
import Derived.WalkKit
import Derived.ProofKit
import Derived.OpenShut
import Derived.ShutString
import Derived.ChangeOld
import Derived.Below
import Derived.Deep.DeepHandedRow
import Derived.Deep.DeepWitnessRowRef
import Derived.Lib.LaidTab
import Derived.LaidMore
import Derived.Test.YtcnnpbeadldflaaDoorOpen
import Derived.Test.YtcnnpbeadldflaaDoorOpenP
import Derived.Test.YtcnnpbeadldflaaDoorPid2
namespace Go.Proofs.YtcnnpbeadldflaaDoor.pidStrict
open Go.ChangeShapes Go.WideShapes Go.ChangeAt Go.RowKit
open Go.ChangeMaps (open_string shut_string)
set_option linter.unusedVariables false
set_option linter.unusedSimpArgs false

theorem before_self (r i c : Nat) : beforeB r i c r i c = false := by simp [beforeB, aheadB]
theorem before_other (r i c s j d : Nat) (h : beforeB r i c s j d = true) : beforeB s j d r i c = false := by
  unfold beforeB aheadB at *
  by_cases h1 : r = s
  · subst h1
    simp only [if_true, decide_eq_true_eq, decide_eq_false_iff_not] at *
    omega
  · rw [if_neg h1] at h
    rw [if_neg (Ne.symm h1)]
    simp only [decide_eq_true_eq, decide_eq_false_iff_not] at *
    omega
theorem before_one (r i c s j d : Nat) (hc : c < 4294967296) (hd : d < 4294967296) (hn : ¬ (r = s ∧ i = j ∧ c = d)) (h : beforeB r i c s j d = false) : beforeB s j d r i c = true := by
  unfold beforeB aheadB at *
  by_cases h1 : r = s
  · subst h1
    simp only [if_true, decide_eq_true_eq, decide_eq_false_iff_not, true_and] at *
    omega
  · rw [if_neg h1] at h
    rw [if_neg (Ne.symm h1)]
    simp only [decide_eq_true_eq, decide_eq_false_iff_not] at *
    omega
theorem lt_of_dec {a b : Nat} (h : decide (a < b) = true) : a < b := of_decide_eq_true h
theorem aheadB_lt {i c j d : Nat} (h : aheadB i c j d = true) : i * 4294967296 + c < j * 4294967296 + d := of_decide_eq_true h
theorem aheadB_mk {i c j d : Nat} (h : i * 4294967296 + c < j * 4294967296 + d) : aheadB i c j d = true := decide_eq_true h
theorem before_trans (r i c s j d t k e : Nat) (h : beforeB r i c s j d = true) (h' : beforeB s j d t k e = true) : beforeB r i c t k e = true := by
  unfold beforeB at h h' ⊢
  by_cases h1 : r = s
  · by_cases h2 : s = t
    · rw [if_pos h1] at h
      rw [if_pos h2] at h'
      rw [if_pos (h1.trans h2)]
      have h3 := aheadB_lt h
      have h4 := aheadB_lt h'
      exact aheadB_mk (Nat.lt_trans h3 h4)
    · rw [if_neg h2] at h'
      have := lt_of_dec h'
      rw [if_neg (by omega)]
      exact decide_eq_true (by omega)
  · rw [if_neg h1] at h
    have h3 := lt_of_dec h
    by_cases h2 : s = t
    · rw [if_neg (by omega)]
      exact decide_eq_true (by omega)
    · rw [if_neg h2] at h'
      have := lt_of_dec h'
      rw [if_neg (by omega)]
      exact decide_eq_true (by omega)
set_option maxRecDepth 100000 in
theorem walk (r i c s j d t k e : Nat) (w : World) (_r : r < 4294967296) (hi : i < 65536) (hc : c < 4294967296) (_s : s < 4294967296) (hj : j < 65536) (hd : d < 4294967296) (_t : t < 4294967296) (hk : k < 65536) (he : e < 4294967296) :
    Calls Tryd.prog 4 #[.agg #[.int .u32 (r : Int), .int .u16 (i : Int), .int .u32 (c : Int)], .agg #[.int .u32 (s : Int), .int .u16 (j : Int), .int .u32 (d : Int)], .agg #[.int .u32 (t : Int), .int .u16 (k : Int), .int .u32 (e : Int)]] w
      fun e w' => e = .returned (.bool true) ∧ Below w.heap.size w w' := by
  have cab := fun W => before_any r i c s j d W hi hc hj hd
  have cbc := fun W => before_any s j d t k e W hj hd hk he
  have cac := fun W => before_any r i c t k e W hi hc hk he
  have caa := fun W => before_any r i c r i c W hi hc hi hc
  have cba := fun W => before_any s j d r i c W hj hd hi hc
  rw [before_self] at caa
  have e1 := before_other r i c s j d
  have e2 := before_one r i c s j d hc hd
  have e3 := before_trans r i c s j d t k e
  generalize beforeB r i c s j d = ab at *
  generalize beforeB s j d t k e = bc at *
  generalize beforeB r i c t k e = ac at *
  generalize beforeB s j d r i c = ba at *
  go_enter Tryd.func4, Tryd.ntmps4
  go_wp2
  obtain ⟨W1, hW1⟩ : ∃ W1 : World, W1 = ((w.alloc (.cells #[.int .u32 (r : Int), .int .u16 (i : Int), .int .u32 (c : Int)] 27)).alloc (.cells #[.int .u32 (s : Int), .int .u16 (j : Int), .int .u32 (d : Int)] 27)).alloc (.cells #[.int .u32 (t : Int), .int .u16 (k : Int), .int .u32 (e : Int)] 27) := ⟨_, rfl⟩
  rw [← hW1]
  have a0 := Later.cell (w0 := W1) (b := w.heap.size) (o := 0) (v := .int .u32 (r : Int)) (by rw [hW1]; go_simp)
  have a1 := Later.cell (w0 := W1) (b := w.heap.size) (o := 1) (v := .int .u16 (i : Int)) (by rw [hW1]; go_simp)
  have a2 := Later.cell (w0 := W1) (b := w.heap.size) (o := 2) (v := .int .u32 (c : Int)) (by rw [hW1]; go_simp)
  have b0 := Later.cell (w0 := W1) (b := w.heap.size + 1) (o := 0) (v := .int .u32 (s : Int)) (by rw [hW1]; go_simp)
  have b1 := Later.cell (w0 := W1) (b := w.heap.size + 1) (o := 1) (v := .int .u16 (j : Int)) (by rw [hW1]; go_simp)
  have b2 := Later.cell (w0 := W1) (b := w.heap.size + 1) (o := 2) (v := .int .u32 (d : Int)) (by rw [hW1]; go_simp)
  have c0 := Later.cell (w0 := W1) (b := w.heap.size + 1 + 1) (o := 0) (v := .int .u32 (t : Int)) (by rw [hW1]; go_simp)
  have c1 := Later.cell (w0 := W1) (b := w.heap.size + 1 + 1) (o := 1) (v := .int .u16 (k : Int)) (by rw [hW1]; go_simp)
  have c2 := Later.cell (w0 := W1) (b := w.heap.size + 1 + 1) (o := 2) (v := .int .u32 (e : Int)) (by rw [hW1]; go_simp)
  have hb : Below w.heap.size w W1 := by rw [hW1]; exact ((Below.refl _ _).alloc (Nat.le_refl _) _).alloc (by simp) _ |>.alloc (by simp; omega) _
  clear hW1
  have kab := fun x : Later W1 => calm_of (cab x.w)
  have kbc := fun x : Later W1 => calm_of (cbc x.w)
  have kac := fun x : Later W1 => calm_of (cac x.w)
  have kaa := fun x : Later W1 => calm_of (caa x.w)
  have kba := fun x : Later W1 => calm_of (cba x.w)
  have kz := fun x : Later W1 => calm_of (awake3_any x.w)
  clear cab cbc cac caa cba
  refine wp_region_calm (by kernel_rfl) (by kernel_rfl) ?_
  repeat (go_big_quiet_step ((go_at_call 10; first | with_reducible exact kab _ | with_reducible exact kbc _ | with_reducible exact kac _)))
  refine wpQuiet_nil ?_
  rintro _ ⟨x9, rfl⟩
  go_wp2_with fail
  refine (kaa x9).mono ?_
  rintro e _ ⟨rfl, x10, rfl⟩
  cases ab with
  | true =>
    obtain rfl := e1 rfl
    have e4 := e3 rfl
    clear e1 e2 e3
    go_wp2_with fail
    refine (kba x10).mono ?_
    rintro e _ ⟨rfl, x11, rfl⟩
    clear kab kbc kac kaa kba
    cases bc with
    | true =>
      obtain rfl := e4 rfl
      go_wp2_with fail
      all_goals
        refine (kz x11).mono ?_
        rintro e _ ⟨rfl, x12, rfl⟩
        have hz := x12.below
        generalize x12.w = w9 at hz ⊢
        go_wp2
        go_ret
        exact ⟨rfl, hb.trans (hz.mono hb.size)⟩
    | false =>
      clear e4
      go_wp2_with fail
      all_goals
        refine (kz x11).mono ?_
        rintro e _ ⟨rfl, x12, rfl⟩
        have hz := x12.below
        generalize x12.w = w9 at hz ⊢
        go_wp2
        go_ret
        exact ⟨rfl, hb.trans (hz.mono hb.size)⟩
  | false =>
    clear e1 e3
    by_cases hE : r = s ∧ i = j ∧ c = d
    · obtain ⟨rfl, rfl, rfl⟩ := hE
      clear e2
      clear kab kbc kac kaa kba
      go_wp2_with fail
      all_goals
        refine (kz x10).mono ?_
        rintro e _ ⟨rfl, x12, rfl⟩
        have hz := x12.below
        generalize x12.w = w9 at hz ⊢
        go_wp2
        go_ret
        exact ⟨rfl, hb.trans (hz.mono hb.size)⟩
    · obtain rfl := e2 hE rfl
      clear e2
      clear kab kbc kac kaa
      by_cases q1 : r = s
      · subst q1
        by_cases q2 : i = j
        · subst q2
          have q3 : ¬ ((c : Int) = (d : Int)) := by omega
          clear hE
          go_wp2_with fail
          refine (kba x10).mono ?_
          rintro e _ ⟨rfl, x11, rfl⟩
          clear kba
          go_wp2_with fail
          refine (kz x11).mono ?_
          rintro e _ ⟨rfl, x12, rfl⟩
          have hz := x12.below
          generalize x12.w = w9 at hz ⊢
          go_wp2
          go_ret
          exact ⟨rfl, hb.trans (hz.mono hb.size)⟩
        · have q3 : ¬ ((i : Int) = (j : Int)) := by omega
          clear hE
          go_wp2_with fail
          refine (kba x10).mono ?_
          rintro e _ ⟨rfl, x11, rfl⟩
          clear kba
          go_wp2_with fail
          refine (kz x11).mono ?_
          rintro e _ ⟨rfl, x12, rfl⟩
          have hz := x12.below
          generalize x12.w = w9 at hz ⊢
          go_wp2
          go_ret
          exact ⟨rfl, hb.trans (hz.mono hb.size)⟩
      · have q3 : ¬ ((r : Int) = (s : Int)) := by omega
        clear hE
        go_wp2_with fail
        refine (kba x10).mono ?_
        rintro e _ ⟨rfl, x11, rfl⟩
        clear kba
        go_wp2_with fail
        refine (kz x11).mono ?_
        rintro e _ ⟨rfl, x12, rfl⟩
        have hz := x12.below
        generalize x12.w = w9 at hz ⊢
        go_wp2
        go_ret
        exact ⟨rfl, hb.trans (hz.mono hb.size)⟩

/-! ### THE ROW's STEP, AND THE CARD -/
set_option maxRecDepth 100000 in
/-- What the walk gives, for every argument and every world that holds what the row lists. -/
theorem contract (H : Type) (enc : TypeId × Value → H) (W : World) (base : Nat) (args : Array Value) (ds gs : List (DataW H)) (before : List MemPlace)
    (hval : ∀ (j : Nat) t v, Tryd.f4.params[j]? = some t → args[j]? = some v → Value.okWide Tryd.prog W .any base t v)
    (hW : DataW.Whole enc Tryd.prog Tryd.f4.params.toList Rows.pidStrictSpec.vars false W args.toList ds gs before)
    (_hsz : (DataW.weightsEach Tryd.prog (Tryd.f4.params.toList ++ (OpenSpec.ofChange Rows.pidStrictSpec).bare.plain.varTypes Tryd.prog) (ds ++ gs)).all (· ≤ reachBytes) = true)
    (_hL : laidMetH Tryd.prog Rows.pidStrictRow.laid W) :
    Calls Tryd.prog 4 args W fun e W' => ∃ v, e = .returned v ∧ Rows.pidStrictSpec.post enc Tryd.prog Tryd.f4 false true false false W args v W' := by
  have hW' := hW
  obtain ⟨p, q, hA0, hV, rfl, hfz, hnd⟩ := hW
  have hA : DataW.TrodAll enc Tryd.prog W 0 (fun _ => true) true Tryd.f4.params.toList args.toList ds p := hA0
  rw [Tryd.params4] at hA hval _hsz
  obtain ⟨v0, vs0, d0, ds0, p0, q0, hargs, rfl, rfl, h0, r0⟩ := trodAll_cons hA
  obtain ⟨v1, vs1, d1, ds1, p1, q1, rfl, rfl, rfl, h1, r1⟩ := trodAll_cons r0
  obtain ⟨v2, vs2, d2, ds2, p2, q2, rfl, rfl, rfl, h2, r2⟩ := trodAll_cons r1
  obtain ⟨rfl, rfl, rfl⟩ := trodAll_nil r2
  obtain rfl : args = #[v0, v1, v2] := by cases args; simp_all
  obtain ⟨rfl, rfl⟩ := trodVars_none hV
  have k0 := h0
  have lt0 : ∀ x ∈ p0, x.block < W.heap.size := by obtain ⟨m, hm⟩ := k0; exact DataW.trod_lt m _ _ _ hm
  obtain ⟨s0, i0, c0, rfl, hs0, hi0, hc0⟩ := open_ballot (hval 0 27 v0 rfl rfl) h0
  have k1 := h1
  have lt1 : ∀ x ∈ p1, x.block < W.heap.size := by obtain ⟨m, hm⟩ := k1; exact DataW.trod_lt m _ _ _ hm
  obtain ⟨s1, i1, c1, rfl, hs1, hi1, hc1⟩ := open_ballot (hval 1 27 v1 rfl rfl) h1
  have k2 := h2
  have lt2 : ∀ x ∈ p2, x.block < W.heap.size := by obtain ⟨m, hm⟩ := k2; exact DataW.trod_lt m _ _ _ hm
  obtain ⟨s2, i2, c2, rfl, hs2, hi2, hc2⟩ := open_ballot (hval 2 27 v2 rfl rfl) h2
  clear hA0
  refine (walk s0 i0 c0 s1 i1 c1 s2 i2 c2 W hs0 hi0 hc0 hs1 hi1 hc1 hs2 hi2 hc2).mono fun e W' ⟨he, bel⟩ => ?_
  subst he
  exact ⟨_, rfl, _, _, _, [], _, [], hW', trodAll_mk1 (shut_bool Tryd.underlying4 _), (trodAll_cons_mk (Below.trod laidOut (by kernel_rfl) (of_decide_eq_true (by kernel_rfl)) k0 bel lt0) (trodAll_cons_mk (Below.trod laidOut (by kernel_rfl) (of_decide_eq_true (by kernel_rfl)) k1 bel lt1) (trodAll_cons_mk (Below.trod laidOut (by kernel_rfl) (of_decide_eq_true (by kernel_rfl)) k2 bel lt2) trodAll_mk0))), rfl, bel.frame _, fun h => by cases h⟩

/-- A world for the witness: what the door's own run leaves. -/
theorem laid_met (os : Os) : laidMet Tryd.prog Rows.pidStrictRow.laid (((World.doorLaid Tryd.prog 400 os)).forCall (fun _ _ => 0) ⟨#[], #[.agg #[.int .u32 0, .int .u16 0, .int .u32 0], .agg #[.int .u32 0, .int .u16 0, .int .u32 0], .agg #[.int .u32 0, .int .u16 0, .int .u32 0]], []⟩).memory :=
  laidMet_of_run' 8 (by kernel_rfl) (by kernel_rfl)
theorem reads (os : Os) {H : Type} (enc : TypeId × Value → H) : ∃ places, DataW.whole enc Tryd.prog (((World.doorLaid Tryd.prog 400 os)).forCall (fun _ _ => 0) ⟨#[], #[.agg #[.int .u32 0, .int .u16 0, .int .u32 0], .agg #[.int .u32 0, .int .u16 0, .int .u32 0], .agg #[.int .u32 0, .int .u16 0, .int .u32 0]], []⟩).memory Tryd.f4.params.toList Rows.pidStrictSpec.vars false (#[.agg #[.int .u32 0, .int .u16 0, .int .u32 0], .agg #[.int .u32 0, .int .u16 0, .int .u32 0], .agg #[.int .u32 0, .int .u16 0, .int .u32 0]] : Array Value).toList 8 = some ([.agg [.lit (.int .u32 0), .agg [.lit (.int .u16 0), .lit (.int .u32 0)]], .agg [.lit (.int .u32 0), .agg [.lit (.int .u16 0), .lit (.int .u32 0)]], .agg [.lit (.int .u32 0), .agg [.lit (.int .u16 0), .lit (.int .u32 0)]]], [], places) :=
  ⟨[], by kernel_rfl⟩
set_option maxRecDepth 100000 in
theorem lifted (os : Os) (started : os.Started) (H : Type) (enc : TypeId × Value → H) (F : Stop.Interp) :
    ReturnsInHanded {} Tryd.checked os 4 .any ((OpenSpec.ofChange Rows.pidStrictSpec).preRow enc Tryd.prog Tryd.f4 Rows.pidStrictRow.domain false Rows.pidStrictRow.laid) (((OpenSpec.ofChange Rows.pidStrictSpec).at F).post enc Tryd.prog Tryd.f4 false true false false) := by
  obtain ⟨places, hx⟩ := reads os enc
  refine returnsInHanded_of_row (C := Tryd.checked) (s := OpenSpec.ofChange Rows.pidStrictSpec) own started (by kernel_rfl) Tryd.func4
    (witness_row_atRef (enc := enc) (C := Tryd.checked) false (World.doorLaid Tryd.prog 400 os) #[.agg #[.int .u32 0, .int .u16 0, .int .u32 0], .agg #[.int .u32 0, .int .u16 0, .int .u32 0], .agg #[.int .u32 0, .int .u16 0, .int .u32 0]] rfl (by kernel_rfl) (by kernel_rfl) (by kernel_rfl)
      (OpenSpec.preRow_of_cond 8 hx (by kernel_rfl) (fun k hk => by cases hk) (by kernel_rfl) (laid_met os))) ?_
  intro W base args ds gs before hval hW _ _ hsz hL _ _
  exact contract H enc W base args ds gs before hval hW hsz hL
theorem said : Rows.PidStrictSaid :=
  OpenClaim.holds_of_cond 4 Tryd.f4 rfl rfl rfl rfl rfl rfl rfl ⟨rfl, rfl, rfl, rfl, rfl⟩ rfl rfl rfl rfl rfl (by kernel_rfl) Tryd.func4 (by kernel_rfl)
    (of_decide_eq_true (by kernel_rfl)) (by unfold Func.isWrapper; first | (rw [if_pos (by decide +kernel)]; kernel_rfl) | (rw [if_neg (by decide +kernel)]; exact ⟨rfl, rfl⟩))
    (fun os started H enc _ F => by rw [OpenClaim.pre_eq_preRow]; exact lifted os started H enc F)
theorem proved : Rows.PidStrictCardSaid :=
  Claim7.holds_tied_plain_at .later [] _ _ _ _ said (fun _ h => by cases h) (by kernel_rfl) (fun _ h => by cases h) pidStrict_row_tie rfl ⟨rfl, rfl⟩ (by kernel_rfl) rfl
    (fun f fn hf hfn => by
      obtain rfl : f = 4 := Option.some.inj ((show Tryd.prog.funcNamed "choragus/choraguslaw03.PidStrict" = some 4 by kernel_rfl).symm.trans hf) |>.symm
      obtain rfl : fn = Tryd.f4 := (Option.some.inj (Tryd.func4.symm.trans hfn)).symm
      exact ⟨by kernel_rfl, fun j t ht => by
        rw [Tryd.params4] at ht
        have hm : t ∈ [27, 27, 27] := by simpa using Array.mem_of_getElem? ht
        have hall : ([27, 27, 27].all fun u => !Tryd.prog.wantsStandIn u) = true := by kernel_rfl
        exact (show Tryd.prog.wantsStandIn t = false by simpa using List.all_eq_true.1 hall t hm)⟩)
    (by kernel_rfl)
#print axioms proved
end Go.Proofs.YtcnnpbeadldflaaDoor.pidStrict
