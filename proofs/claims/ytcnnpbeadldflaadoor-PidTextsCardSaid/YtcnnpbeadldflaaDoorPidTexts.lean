/-
  The law choraguslaw03.PidTexts answers true, and does not panic, for every argument that its row allows; its card ties what the row lists to the program's text. Conditions: none but the row's own.
-/
import Derived.Test.YtcnnpbeadldflaaDoorCards
import Derived.Test.YtcnnpbeadldflaaDoorTie
import Derived.WalkKit
import Derived.ProofKit
import Derived.OpenShut
import Derived.ShutString
import Derived.ChangeOld
import Derived.Below
import Derived.Deep.DeepHandedRow
import Derived.Deep.DeepWitnessRowRef
import Derived.Lib.LaidTab
import Derived.LaidMore
import Derived.Test.YtcnnpbeadldflaaDoorOpen
import Derived.Test.YtcnnpbeadldflaaDoorOpenP
import Derived.Test.YtcnnpbeadldflaaDoorPid2
import Derived.Test.YtcnnpbeadldflaaDoorPid6
import Derived.Test.YtcnnpbeadldflaaDoorLaid3
namespace Go.Proofs.YtcnnpbeadldflaaDoor.pidTexts
open Go.ChangeShapes Go.WideShapes Go.ChangeAt Go.RowKit
open Go.ChangeMaps (open_string shut_string)
set_option linter.unusedVariables false
set_option linter.unusedSimpArgs false

open Go.Lib
theorem parse_any (s : ByteArray) (w : World) (q : Nat × Nat × Nat) (hs : s.size ≤ 2000) (ht : Pows w) (hE : Errs w) (h : TextG s.data.toList q) :
    Calls Tryd.prog 15 #[.string s] w (ParsesP w q) := by
  rcases h with ⟨i, k, hi, hk, hl, rfl⟩ | ⟨h, rfl⟩
  · have e : s = pidS i k := str_of hl
    subst e
    exact parse_yes i k w hi hk ht
  · exact parse_no s w hs ht hE h
theorem rparse_any (s : ByteArray) (w : World) (q : Nat × Nat × Nat) (hs : s.size ≤ 2000) (h : TextG s.data.toList q) :
    Calls Tryd.prog 16 #[.string s] w (ParsesP w q) := by
  rcases h with ⟨i, k, hi, hk, hl, rfl⟩ | ⟨h, rfl⟩
  · have e : s = pidS i k := str_of hl
    subst e
    exact rparse_yes i k w hi hk
  · exact rparse_no s w hs h
set_option maxRecDepth 100000 in
theorem walk (i k : Nat) (s : ByteArray) (w : World) (hi : i < 65536) (hk : k < 4294967296) (_ws : s.size ≤ maxLen) (hL : laidMetH Tryd.prog Rows.pidTextsRow.laid w) :
    Calls Tryd.prog 5 #[.agg #[.int .u16 (i : Int), .int .u32 (k : Int)], .string s] w fun e w' => e = .returned (.bool true) ∧ Below w.heap.size w w' := by
  obtain ⟨hP, hE⟩ := texts_laid hL
  clear hL
  unfold maxLen at _ws
  obtain ⟨w0, hw0⟩ : ∃ w0 : World, w0 = w.alloc (.cells #[.int .u16 (i : Int), .int .u32 (k : Int)] 25) := ⟨_, rfl⟩
  have hz0 : Below w.heap.size w w0 := by rw [hw0]; exact (Below.refl _ _).alloc (Nat.le_refl w.heap.size) _
  have l0 : w.heap.size < w0.heap.size := by rw [hw0]; simp
  have q0 : w0.cell? ⟨w.heap.size, 0, none⟩ = some (.int .u16 (i : Int)) := by rw [hw0]; go_simp
  have q1 : w0.cell? ⟨w.heap.size, 1, none⟩ = some (.int .u32 (k : Int)) := by rw [hw0]; go_simp
  by_cases hbig : 2000 < s.size
  · clear hP hE
    go_enter Tryd.func5, Tryd.ntmps5
    go_wp2_with fail
    rw [← hw0]
    clear hw0
    refine (awake3_any _).mono ?_
    rintro e w' ⟨rfl, hb⟩
    have hbz := hz0.trans (hb.mono hz0.size)
    clear hb
    go_wp2
    go_ret
    exact ⟨rfl, hbz⟩
  · have hs : s.size ≤ 2000 := by omega
    obtain ⟨⟨qi, qk, qe⟩, hq⟩ := TextG.some_ s.data.toList
    have cpr := fun W h => print_any i k W hi hk h
    have crpr := fun W => rprint_any i k W hi hk
    have cpy := fun W h => parse_yes i k W hi hk h
    have cps := fun W h1 h2 => parse_any s W (qi, qk, qe) hs h1 h2 hq
    have crps := fun W => rparse_any s W (qi, qk, qe) hs hq
    unfold ParsesP at cpy cps crps
    simp only at cpy cps crps
    have hsz := pidS_size i k hi hk
    clear hq
    generalize pidS i k = t at *
    have t1 : (t.toList == t.toList) = true := by simp
    have t2 : ((qe : Int) == (qe : Int)) = true := by simp
    have P0 := hP.below hz0
    have E0 := hE.below hz0
    clear hP hE
    go_enter Tryd.func5, Tryd.ntmps5
    go_wp2_with fail
    rw [← hw0]
    clear hw0
    refine (cpr _ P0).mono ?_
    rintro e w1 ⟨rfl, hb1⟩
    have P1 := P0.below hb1
    have E1 := E0.below hb1
    clear cpr
    go_wp2_with fail
    refine (cpy _ P1).mono ?_
    rintro e w2 ⟨rfl, hb2⟩
    have h02 := hb1.trans (hb2.mono hb1.size)
    have P2 := P1.below hb2
    have E2 := E1.below hb2
    have l2 := hb2.size
    have l1 := hb1.size
    clear cpy hb1 hb2 P1 E1
    have P3 := P2.below ((Below.refl _ _).alloc (Nat.le_refl w2.heap.size) (.cells #[.int .u16 (i : Int), .int .u32 (k : Int)] 25))
    have E3 := E2.below ((Below.refl _ _).alloc (Nat.le_refl w2.heap.size) (.cells #[.int .u16 (i : Int), .int .u32 (k : Int)] 25))
    go_wp2_with fail
    refine (cps _ P3 E3).mono ?_
    rintro e w3 ⟨rfl, hb3⟩
    simp only [World.size_alloc] at hb3
    have h04 := (h02.alloc (by omega) (.cells #[.int .u16 (i : Int), .int .u32 (k : Int)] 25)).trans (hb3.mono (by omega))
    have l3 : w2.heap.size + 1 ≤ w3.heap.size := by have := hb3.size; simpa using this
    have a0 : w3.cell? ⟨w2.heap.size, 0, none⟩ = some (.int .u16 (i : Int)) := (hb3.cell (by simp)).trans (by go_simp)
    have a1 : w3.cell? ⟨w2.heap.size, 1, none⟩ = some (.int .u32 (k : Int)) := (hb3.cell (by simp)).trans (by go_simp)
    clear cps P2 E2 P3 E3 P0 E0 hb3 h02
    go_wp2_with fail
    refine (crps _).mono ?_
    rintro e w4 ⟨rfl, hb4⟩
    simp only [World.size_alloc] at hb4
    have l4 : w3.heap.size + 1 ≤ w4.heap.size := by have := hb4.size; simpa using this
    have b0 : w4.cell? ⟨w3.heap.size, 0, none⟩ = some (.int .u16 (qi : Int)) := (hb4.cell (by simp)).trans (by go_simp)
    have b1 : w4.cell? ⟨w3.heap.size, 1, none⟩ = some (.int .u32 (qk : Int)) := (hb4.cell (by simp)).trans (by go_simp)
    have c0 : w4.cell? ⟨w2.heap.size, 0, none⟩ = some (.int .u16 (i : Int)) := (hb4.cell (by show w2.heap.size < _; omega)).trans ((World.cell?_alloc_lt w3 _ _ (World.block_lt_of_cell? _ _ a0)).trans a0)
    have c1 : w4.cell? ⟨w2.heap.size, 1, none⟩ = some (.int .u32 (k : Int)) := (hb4.cell (by show w2.heap.size < _; omega)).trans ((World.cell?_alloc_lt w3 _ _ (World.block_lt_of_cell? _ _ a1)).trans a1)
    have h05 := (h04.alloc (by omega) (.cells #[.int .u16 (qi : Int), .int .u32 (qk : Int)] 25)).trans (hb4.mono (by omega))
    have d0 : w4.cell? ⟨w.heap.size, 0, none⟩ = some (.int .u16 (i : Int)) := (h05.cell l0).trans q0
    have d1 : w4.cell? ⟨w.heap.size, 1, none⟩ = some (.int .u32 (k : Int)) := (h05.cell l0).trans q1
    clear crps hb4 h04 a0 a1
    have l5 : w.heap.size < w4.heap.size := World.block_lt_of_cell? _ _ d0
    have l6 : w2.heap.size < w4.heap.size := World.block_lt_of_cell? _ _ c0
    have l7 : w3.heap.size < w4.heap.size := World.block_lt_of_cell? _ _ b0
    go_wp2_with fail
    have e0 := (World.cell?_alloc_lt w4 (.cells #[.int .u16 (qi : Int), .int .u32 (qk : Int)] 25) _ (World.block_lt_of_cell? _ _ b0)).trans b0
    have e1 := (World.cell?_alloc_lt w4 (.cells #[.int .u16 (qi : Int), .int .u32 (qk : Int)] 25) _ (World.block_lt_of_cell? _ _ b1)).trans b1
    have e2 := (World.cell?_alloc_lt w4 (.cells #[.int .u16 (qi : Int), .int .u32 (qk : Int)] 25) _ (World.block_lt_of_cell? _ _ c0)).trans c0
    have e3 := (World.cell?_alloc_lt w4 (.cells #[.int .u16 (qi : Int), .int .u32 (qk : Int)] 25) _ (World.block_lt_of_cell? _ _ c1)).trans c1
    have e4 := (World.cell?_alloc_lt w4 (.cells #[.int .u16 (qi : Int), .int .u32 (qk : Int)] 25) _ (World.block_lt_of_cell? _ _ d0)).trans d0
    have e5 := (World.cell?_alloc_lt w4 (.cells #[.int .u16 (qi : Int), .int .u32 (qk : Int)] 25) _ (World.block_lt_of_cell? _ _ d1)).trans d1
    have e6 : (w4.alloc (.cells #[.int .u16 (qi : Int), .int .u32 (qk : Int)] 25)).cell? ⟨w4.heap.size, 0, none⟩ = some (.int .u16 (qi : Int)) := by go_simp
    have e7 : (w4.alloc (.cells #[.int .u16 (qi : Int), .int .u32 (qk : Int)] 25)).cell? ⟨w4.heap.size, 1, none⟩ = some (.int .u32 (qk : Int)) := by go_simp
    have h06 := hz0.trans ((h05.alloc (by omega) (.cells #[.int .u16 (qi : Int), .int .u32 (qk : Int)] 25)).mono hz0.size)
    clear b0 b1 c0 c1 d0 d1 h05 q0 q1
    generalize w4.alloc (.cells #[.int .u16 (qi : Int), .int .u32 (qk : Int)] 25) = w5 at e0 e1 e2 e3 e4 e5 e6 e7 h06 ⊢
    have g0 := Later.cell e0
    have g1 := Later.cell e1
    have g2 := Later.cell e2
    have g3 := Later.cell e3
    have g4 := Later.cell e4
    have g5 := Later.cell e5
    have g6 := Later.cell e6
    have g7 := Later.cell e7
    clear e0 e1 e2 e3 e4 e5 e6 e7
    have kr := fun x : Later w5 => calm_of (crpr x.w)
    have kz := fun x : Later w5 => calm_of (awake3_any x.w)
    clear crpr
    refine (kr ⟨w5, Below.refl _ _⟩).mono ?_
    rintro e _ ⟨rfl, x6, rfl⟩
    clear kr
    go_wp2_with fail
    refine (kz _).mono ?_
    rintro e _ ⟨rfl, x7, rfl⟩
    have hz := x7.below
    generalize x7.w = w9 at hz ⊢
    go_wp2
    go_ret
    exact ⟨rfl, h06.trans (hz.mono h06.size)⟩

/-! ### THE ROW's STEP, AND THE CARD -/
set_option maxRecDepth 100000 in
/-- What the walk gives, for every argument and every world that holds what the row lists. -/
theorem contract (H : Type) (enc : TypeId × Value → H) (W : World) (base : Nat) (args : Array Value) (ds gs : List (DataW H)) (before : List MemPlace)
    (hval : ∀ (j : Nat) t v, Tryd.f5.params[j]? = some t → args[j]? = some v → Value.okWide Tryd.prog W .any base t v)
    (hW : DataW.Whole enc Tryd.prog Tryd.f5.params.toList Rows.pidTextsSpec.vars false W args.toList ds gs before)
    (_hsz : (DataW.weightsEach Tryd.prog (Tryd.f5.params.toList ++ (OpenSpec.ofChange Rows.pidTextsSpec).bare.plain.varTypes Tryd.prog) (ds ++ gs)).all (· ≤ reachBytes) = true)
    (_hL : laidMetH Tryd.prog Rows.pidTextsRow.laid W) :
    Calls Tryd.prog 5 args W fun e W' => ∃ v, e = .returned v ∧ Rows.pidTextsSpec.post enc Tryd.prog Tryd.f5 false true false false W args v W' := by
  have hW' := hW
  obtain ⟨p, q, hA0, hV, rfl, hfz, hnd⟩ := hW
  have hA : DataW.TrodAll enc Tryd.prog W 0 (fun _ => true) true Tryd.f5.params.toList args.toList ds p := hA0
  rw [Tryd.params5] at hA hval _hsz
  obtain ⟨v0, vs0, d0, ds0, p0, q0, hargs, rfl, rfl, h0, r0⟩ := trodAll_cons hA
  obtain ⟨v1, vs1, d1, ds1, p1, q1, rfl, rfl, rfl, h1, r1⟩ := trodAll_cons r0
  obtain ⟨rfl, rfl, rfl⟩ := trodAll_nil r1
  obtain rfl : args = #[v0, v1] := by cases args; simp_all
  obtain ⟨rfl, rfl⟩ := trodVars_none hV
  have k0 := h0
  have lt0 : ∀ x ∈ p0, x.block < W.heap.size := by obtain ⟨m, hm⟩ := k0; exact DataW.trod_lt m _ _ _ hm
  obtain ⟨i0, c0, rfl, hi0, hc0⟩ := open_pid (hval 0 25 v0 rfl rfl) h0
  have k1 := h1
  have lt1 : ∀ x ∈ p1, x.block < W.heap.size := by obtain ⟨m, hm⟩ := k1; exact DataW.trod_lt m _ _ _ hm
  obtain ⟨a1, rfl, rfl, rfl, w1⟩ := open_string Tryd.underlying9 (hval 1 9 v1 rfl rfl) h1
  clear hA0
  refine (walk i0 c0 a1 W hi0 hc0 w1 _hL).mono fun e W' ⟨he, bel⟩ => ?_
  subst he
  exact ⟨_, rfl, _, _, _, [], _, [], hW', trodAll_mk1 (shut_bool Tryd.underlying4 _), (trodAll_cons_mk (Below.trod laidOut (by kernel_rfl) (of_decide_eq_true (by kernel_rfl)) k0 bel lt0) (trodAll_cons_mk (Below.trod laidOut (by kernel_rfl) (of_decide_eq_true (by kernel_rfl)) k1 bel lt1) trodAll_mk0)), rfl, bel.frame _, fun h => by cases h⟩

/-- A world for the witness: what the door's own run leaves. -/
theorem laid_met (os : Os) : laidMet Tryd.prog Rows.pidTextsRow.laid (((World.doorLaid Tryd.prog 400 os)).forCall (fun _ _ => 0) ⟨#[], #[.agg #[.int .u16 0, .int .u32 0], .string ByteArray.empty], []⟩).memory :=
  laidMet_of_run' 8 (by kernel_rfl) (by kernel_rfl)
theorem reads (os : Os) {H : Type} (enc : TypeId × Value → H) : ∃ places, DataW.whole enc Tryd.prog (((World.doorLaid Tryd.prog 400 os)).forCall (fun _ _ => 0) ⟨#[], #[.agg #[.int .u16 0, .int .u32 0], .string ByteArray.empty], []⟩).memory Tryd.f5.params.toList Rows.pidTextsSpec.vars false (#[.agg #[.int .u16 0, .int .u32 0], .string ByteArray.empty] : Array Value).toList 8 = some ([.agg [.lit (.int .u16 0), .lit (.int .u32 0)], .lit (.string [])], [], places) :=
  ⟨[], by kernel_rfl⟩
set_option maxRecDepth 100000 in
theorem lifted (os : Os) (started : os.Started) (H : Type) (enc : TypeId × Value → H) (F : Stop.Interp) :
    ReturnsInHanded {} Tryd.checked os 5 .any ((OpenSpec.ofChange Rows.pidTextsSpec).preRow enc Tryd.prog Tryd.f5 Rows.pidTextsRow.domain false Rows.pidTextsRow.laid) (((OpenSpec.ofChange Rows.pidTextsSpec).at F).post enc Tryd.prog Tryd.f5 false true false false) := by
  obtain ⟨places, hx⟩ := reads os enc
  refine returnsInHanded_of_row (C := Tryd.checked) (s := OpenSpec.ofChange Rows.pidTextsSpec) own started (by kernel_rfl) Tryd.func5
    (witness_row_atRef (enc := enc) (C := Tryd.checked) false (World.doorLaid Tryd.prog 400 os) #[.agg #[.int .u16 0, .int .u32 0], .string ByteArray.empty] rfl (by kernel_rfl) (by kernel_rfl) (by kernel_rfl)
      (OpenSpec.preRow_of_cond 8 hx (by kernel_rfl) (fun k hk => by cases hk) (by kernel_rfl) (laid_met os))) ?_
  intro W base args ds gs before hval hW _ _ hsz hL _ _
  exact contract H enc W base args ds gs before hval hW hsz hL
theorem said : Rows.PidTextsSaid :=
  OpenClaim.holds_of_cond 5 Tryd.f5 rfl rfl rfl rfl rfl rfl rfl ⟨rfl, rfl, rfl, rfl, rfl⟩ rfl rfl rfl rfl rfl (by kernel_rfl) Tryd.func5 (by kernel_rfl)
    (of_decide_eq_true (by kernel_rfl)) (by unfold Func.isWrapper; first | (rw [if_pos (by decide +kernel)]; kernel_rfl) | (rw [if_neg (by decide +kernel)]; exact ⟨rfl, rfl⟩))
    (fun os started H enc _ F => by rw [OpenClaim.pre_eq_preRow]; exact lifted os started H enc F)
theorem proved : Rows.PidTextsCardSaid :=
  Claim7.holds_tied_plain_at .later [] _ _ _ _ said (fun _ h => by cases h) (by kernel_rfl) (fun _ h => by cases h) pidTexts_row_tie rfl ⟨rfl, rfl⟩ (by kernel_rfl) rfl
    (fun f fn hf hfn => by
      obtain rfl : f = 5 := Option.some.inj ((show Tryd.prog.funcNamed "choragus/choraguslaw03.PidTexts" = some 5 by kernel_rfl).symm.trans hf) |>.symm
      obtain rfl : fn = Tryd.f5 := (Option.some.inj (Tryd.func5.symm.trans hfn)).symm
      exact ⟨by kernel_rfl, fun j t ht => by
        rw [Tryd.params5] at ht
        have hm : t ∈ [25, 9] := by simpa using Array.mem_of_getElem? ht
        have hall : ([25, 9].all fun u => !Tryd.prog.wantsStandIn u) = true := by kernel_rfl
        exact (show Tryd.prog.wantsStandIn t = false by simpa using List.all_eq_true.1 hall t hm)⟩)
    (by kernel_rfl)
#print axioms proved
end Go.Proofs.YtcnnpbeadldflaaDoor.pidTexts
