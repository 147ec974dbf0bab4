import Derived.Test.YtjmkecaljkcoiaaGreatDoorCards
import Derived.Test.YtjmkecaljkcoiaaGreatDoorTie
import Derived.WalkKit
import Derived.ProofKit
import Derived.OpenShut
import Derived.ShutString
import Derived.ChangeOld
import Derived.Below
import Derived.Deep.DeepHandedRow
import Derived.Deep.DeepWitnessRowRef
import Derived.Lib.LaidTab
import Derived.LaidMore
import Derived.Test.YtjmkecaljkcoiaaGreatDoorQRowE
import Derived.Test.YtjmkecaljkcoiaaGreatDoorQMsg1
import Derived.Test.YtjmkecaljkcoiaaGreatDoorQMsg10M
import Derived.Test.YtjmkecaljkcoiaaGreatDoorQDc2
import Derived.Test.YtjmkecaljkcoiaaGreatDoorQMsg13
namespace Go.Proofs.YtjmkecaljkcoiaaGreatDoor.msgDecodes
open Go.ChangeShapes Go.WideShapes Go.ChangeAt Go.RowKit
open Go.ChangeMaps (open_string shut_string)
set_option linter.unusedVariables false
set_option linter.unusedSimpArgs false
theorem kinds_laid {W : World} (h : laidMetH Tryz.prog Rows.msgDecodesRow.laid W) : Kinds W := by
  have h' : laidMetH Tryz.prog [("choragus/msg.kinds", Rows.laid_choragus_msg_kinds)] W := h
  rw [MakeChecks.laidMetH_plain _ _ _ (by kernel_rfl)] at h'
  exact kinds_of h'
theorem lent_later {w w' : World} {g : Nat} {l : List UInt8} (h : LentB w g l) (hb : Below w.heap.size w w') : LentB w' g l := (hb.block g (lt_of_heap h)).trans h
set_option maxRecDepth 100000 in
set_option maxHeartbeats 4000000 in
theorem walk (A : Option Addr) (n c : Nat) (zs : List Int) (w : World) (w0 : IsRow .u8 w A n c zs) (_b : ∀ x, A = some x → 0 < n → x.block < w.heap.size) (hL : laidMetH Tryz.prog Rows.msgDecodesRow.laid w) :
    Calls Tryz.prog 4 #[.slice A n c] w fun e w' => e = .returned (.bool true) ∧ Below w.heap.size w w' := by
  have hK := kinds_laid hL
  clear hL
  obtain ⟨l, hA, hnc, hcm⟩ := isRow_bytes w0
  clear w0 _b
  have hlen := hA.len
  have AW := fun W (hb : Below w.heap.size w W) => (awake10_any W (hK.later hb)).mono (fun e w' (hh : e = .returned (.bool true) ∧ Below W.heap.size W w') => (⟨hh.1, hb.trans (hh.2.mono hb.size)⟩ : e = .returned (.bool true) ∧ Below w.heap.size w w'))
  have HAW := hide AW
  have AIN := fun W (hb : Below w.heap.size w W) => hA.below hb
  have KIN := fun W (hb : Below w.heap.size w W) => hK.later hb
  have HZ := hide (And.intro AIN KIN)
  clear hK AW AIN KIN
  by_cases h20 : 2000 < n
  · have t2 : ((n : Int) > 2000) = True := by simp; omega
    have aw := HAW.out w (Below.refl _ _)
    go_enter Tryz.func4, Tryz.ntmps4
    go_wp2_with fail
    refine aw.mono ?_
    rintro e w3 ⟨rfl, hb3⟩
    go_wp2
    go_ret
    exact ⟨rfl, hb3⟩
  have t2 : ((n : Int) > 2000) = False := by simp; omega
  go_enter Tryz.func4, Tryz.ntmps4
  go_wp2_with fail
  refine (lent_any A n c l _ w hA (Nat.le_refl _) (by omega)).mono ?_
  rintro e w1 ⟨rfl, hL1, hb1⟩
  have cd := decode10_any (some ⟨w.heap.size, 0, none⟩) n (n + 8) l w1.heap.size w1 (hL1.bs hlen (by omega)) (Nat.le_refl _) (by omega) (HZ.out.2 w1 hb1)
  unfold DecP10 at cd
  clear hA
  go_wp2_with fail
  refine cd.mono ?_
  rintro e w2 ⟨y, rfl, hy, ho, hyn, hys, hb⟩
  have hb2 := hb1.trans (hb.mono hb1.size)
  have L2 := lent_later hL1 hb
  have y2 : MAt10 (w2.alloc (.cells #[.int .i64 0, .int .u16 0, .int .u32 0, .int .u64 0, .int .u64 0, .int .u64 0, .int .i64 0, .int .u32 0, .int .u16 0, .int .u32 0, .int .u32 0, .int .u16 0, .int .u32 0, .bool false, .int .i64 0, .int .u16 0, .int .u32 0, .int .u64 0, .int .u64 0, .slice none 0 0, .int .u64 0, .slice none 0 0, .slice none 0 0, .slice none 0 0, .int .u64 0, .slice none 0 0, .slice none 0 0, .slice none 0 0, .slice none 0 0] 50)) w2.heap.size zeroM := MAt10.mk_ w2 zeroM
  have HY := hide hy
  clear cd hL1 hb hb1 hy
  go_wp2_with (refine wpList_store_msg y zeroM w2.heap.size rfl (.tmp 4) (.tmp 17) rfl rfl rfl y2 ?_)
  intro w3 hst
  have ob : Below w2.heap.size w2 w3 := hst.below ((Below.refl _ _).alloc (Nat.le_refl _) _) (Nat.le_refl _)
  have hb3 := hb2.trans (ob.mono hb2.size)
  have y3 := hst.at_ y2
  have o3 := ho.later ob
  have L3 := lent_later L2 ob
  have cr := rdecode10_any A n c l w.heap.size w3 (HZ.out.1 w3 hb3) hb3.size hnc hcm
  unfold DecP10 at cr
  clear hst y2 ob ho hb2 L2
  go_wp2_with fail
  refine cr.mono ?_
  rintro e w4 ⟨u, rfl, hu, hou, hun, hus, hb⟩
  have hb4 := hb3.trans (hb.mono hb3.size)
  have y4 := y3.later hb
  have o4 := o3.later hb
  have L4 := lent_later L3 hb
  have u4 : MAt10 (w4.alloc (.cells #[.int .i64 0, .int .u16 0, .int .u32 0, .int .u64 0, .int .u64 0, .int .u64 0, .int .i64 0, .int .u32 0, .int .u16 0, .int .u32 0, .int .u32 0, .int .u16 0, .int .u32 0, .bool false, .int .i64 0, .int .u16 0, .int .u32 0, .int .u64 0, .int .u64 0, .slice none 0 0, .int .u64 0, .slice none 0 0, .slice none 0 0, .slice none 0 0, .int .u64 0, .slice none 0 0, .slice none 0 0, .slice none 0 0, .slice none 0 0] 50)) w4.heap.size zeroM := MAt10.mk_ w4 zeroM
  have hsz4 := y4.lt
  have HU := hide hu
  clear cr y3 o3 L3 hb hb3 hu
  go_wp2_with (refine wpList_store_msg u zeroM w4.heap.size rfl (.tmp 6) (.tmp 22) rfl rfl rfl u4 ?_)
  intro w5 hst
  have ob : Below w4.heap.size w4 w5 := hst.below ((Below.refl _ _).alloc (Nat.le_refl _) _) (Nat.le_refl _)
  have hb5 := hb4.trans (ob.mono hb4.size)
  have y5 := y4.later ob
  have u5 := hst.at_ u4
  have o5 := o4.later ob
  have p5 := hou.later ob
  have L5 := lent_later L4 ob
  have cs := rmsame_any y u w5.heap.size w5.heap.size w5 true (o5.in_ hyn) (p5.in_ hun) (Nat.le_refl _) (Nat.le_refl _) ⟨fun _ => by rw [HY.out, HU.out], fun _ => rfl⟩
  have hl5 := y5.lt
  have hl6 := u5.lt
  clear hst u4 ob o4 hou hb4 y4 L4
  generalize (decM l).2 = q at *
  have xq : ((q : Int) == (q : Int)) = true := by simp
  go_wp2_with (first | refine wpList_load_msg y w2.heap.size rfl (.tmp 4) rfl rfl y5 ?_ | refine wpList_load_msg u w4.heap.size rfl (.tmp 6) rfl rfl u5 ?_)
  refine cs.mono ?_
  rintro e w6 ⟨rfl, hb⟩
  have hb6 := hb5.trans (hb.mono hb5.size)
  have L6 := lent_later L5 hb
  have ck := kept_any A n c w.heap.size l w.heap.size w6 (HZ.out.1 w6 hb6) L6 (by omega)
  clear cs y5 u5 o5 p5 hb hb5 L5
  go_wp2_with fail
  refine ck.mono ?_
  rintro e w7 ⟨rfl, hd⟩
  have hb7 := hb6.trans ((drawn_below hd).mono hb6.size)
  have aw := HAW.out w7 hb7
  clear ck hd hb6 L6
  go_wp2_with fail
  refine aw.mono ?_
  rintro e w8 ⟨rfl, hb8⟩
  go_wp2
  go_ret
  exact ⟨rfl, hb8⟩
set_option maxRecDepth 100000 in
theorem contract (H : Type) (enc : TypeId × Value → H) (W : World) (base : Nat) (args : Array Value) (ds gs : List (DataW H)) (before : List MemPlace)
    (hval : ∀ (j : Nat) t v, Tryz.f4.params[j]? = some t → args[j]? = some v → Value.okWide Tryz.prog W .any base t v)
    (hW : DataW.Whole enc Tryz.prog Tryz.f4.params.toList Rows.msgDecodesSpec.vars false W args.toList ds gs before)
    (_hsz : (DataW.weightsEach Tryz.prog (Tryz.f4.params.toList ++ (OpenSpec.ofChange Rows.msgDecodesSpec).bare.plain.varTypes Tryz.prog) (ds ++ gs)).all (· ≤ reachBytes) = true)
    (_hL : laidMetH Tryz.prog Rows.msgDecodesRow.laid W) :
    Calls Tryz.prog 4 args W fun e W' => ∃ v, e = .returned v ∧ Rows.msgDecodesSpec.post enc Tryz.prog Tryz.f4 false true false false W args v W' := by
  have hW' := hW
  obtain ⟨p, q, hA0, hV, rfl, hfz, hnd⟩ := hW
  have hA : DataW.TrodAll enc Tryz.prog W 0 (fun _ => true) true Tryz.f4.params.toList args.toList ds p := hA0
  rw [Tryz.params4] at hA hval _hsz
  obtain ⟨v0, vs0, d0, ds0, p0, q0, hargs, rfl, rfl, h0, r0⟩ := trodAll_cons hA
  obtain ⟨rfl, rfl, rfl⟩ := trodAll_nil r0
  obtain rfl : args = #[v0] := by cases args; simp_all
  obtain ⟨rfl, rfl⟩ := trodVars_none hV
  have k0 := h0
  have lt0 : ∀ x ∈ p0, x.block < W.heap.size := by obtain ⟨m, hm⟩ := k0; exact DataW.trod_lt m _ _ _ hm
  obtain ⟨a0, len0, cap0, rfl⟩ := okWide_slice Tryz.underlying39 (hval 0 39 v0 rfl rfl)
  obtain ⟨z0, w0⟩ : ∃ zs, IsRow .u8 W a0 len0 cap0 zs := by
    obtain ⟨fuel, hf⟩ := h0
    rcases open_ints Tryz.underlying39 Tryz.underlying5 (by kernel_rfl) hf with ⟨hcs, _⟩ | ⟨x, l, c, zs, hcs, _, hl, hm, hz, _, hcell, hwz⟩
    · simp [Value.cells] at hcs
      obtain ⟨rfl, rfl, rfl⟩ := hcs
      exact ⟨[], .inl ⟨rfl, rfl, rfl, rfl⟩⟩
    · simp [Value.cells] at hcs
      obtain ⟨rfl, rfl, rfl⟩ := hcs
      exact ⟨zs, .inr ⟨_, rfl, hl, hm, by simpa using hz, hcell, hwz⟩⟩
  have b0 : ∀ x, a0 = some x → 0 < len0 → x.block < W.heap.size := isRow_block w0
  clear hA0
  refine (walk a0 len0 cap0 z0 W w0 b0 _hL).mono fun e W' ⟨he, bel⟩ => ?_
  subst he
  exact ⟨_, rfl, _, _, _, [], _, [], hW', trodAll_mk1 (shut_bool Tryz.underlying4 _), (trodAll_cons_mk (Below.trod laidOut (by kernel_rfl) (of_decide_eq_true (by kernel_rfl)) k0 bel lt0) trodAll_mk0), rfl, bel.frame _, fun h => by cases h⟩
theorem laid_met (os : Os) : laidMet Tryz.prog Rows.msgDecodesRow.laid (((World.doorLaid Tryz.prog 400 os)).forCall (fun _ _ => 0) ⟨#[], #[.slice none 0 0], []⟩).memory :=
  laidMet_of_run' 8 (by kernel_rfl) (by kernel_rfl)
theorem reads (os : Os) {H : Type} (enc : TypeId × Value → H) : ∃ places, DataW.whole enc Tryz.prog (((World.doorLaid Tryz.prog 400 os)).forCall (fun _ _ => 0) ⟨#[], #[.slice none 0 0], []⟩).memory Tryz.f4.params.toList Rows.msgDecodesSpec.vars false (#[.slice none 0 0] : Array Value).toList 8 = some ([.nil], [], places) :=
  ⟨[], by kernel_rfl⟩
set_option maxRecDepth 100000 in
theorem lifted (os : Os) (started : os.Started) (H : Type) (enc : TypeId × Value → H) (F : Stop.Interp) :
    ReturnsInHanded {} Tryz.checked os 4 .any ((OpenSpec.ofChange Rows.msgDecodesSpec).preRow enc Tryz.prog Tryz.f4 Rows.msgDecodesRow.domain false Rows.msgDecodesRow.laid) (((OpenSpec.ofChange Rows.msgDecodesSpec).at F).post enc Tryz.prog Tryz.f4 false true false false) := by
  obtain ⟨places, hx⟩ := reads os enc
  refine returnsInHanded_of_row (C := Tryz.checked) (s := OpenSpec.ofChange Rows.msgDecodesSpec) own started (by kernel_rfl) Tryz.func4
    (witness_row_atRef (enc := enc) (C := Tryz.checked) false (World.doorLaid Tryz.prog 400 os) #[.slice none 0 0] rfl (by kernel_rfl) (by kernel_rfl) (by kernel_rfl)
      (OpenSpec.preRow_of_cond 8 hx (by kernel_rfl) (fun k hk => by cases hk) (by kernel_rfl) (laid_met os))) ?_
  intro W base args ds gs before hval hW _ _ hsz hL _ _
  exact contract H enc W base args ds gs before hval hW hsz hL
theorem said : Rows.MsgDecodesSaid :=
  OpenClaim.holds_of_cond 4 Tryz.f4 rfl rfl rfl rfl rfl rfl rfl ⟨rfl, rfl, rfl, rfl, rfl⟩ rfl rfl rfl rfl rfl (by kernel_rfl) Tryz.func4 (by kernel_rfl)
    (of_decide_eq_true (by kernel_rfl)) (by unfold Func.isWrapper; first | (rw [if_pos (by decide +kernel)]; kernel_rfl) | (rw [if_neg (by decide +kernel)]; exact ⟨rfl, rfl⟩))
    (fun os started H enc _ F => by rw [OpenClaim.pre_eq_preRow]; exact lifted os started H enc F)
theorem proved : Rows.MsgDecodesCardSaid :=
  Claim7.holds_tied_plain_at .later [] _ _ _ _ said (fun _ h => by cases h) (by kernel_rfl) (fun _ h => by cases h) msgDecodes_row_tie rfl ⟨rfl, rfl⟩ (by kernel_rfl) rfl
    (fun f fn hf hfn => by
      obtain rfl : f = 4 := Option.some.inj ((show Tryz.prog.funcNamed "choragus/choraguslaw10.MsgDecodes" = some 4 by kernel_rfl).symm.trans hf) |>.symm
      obtain rfl : fn = Tryz.f4 := (Option.some.inj (Tryz.func4.symm.trans hfn)).symm
      exact ⟨by kernel_rfl, fun j t ht => by
        rw [Tryz.params4] at ht
        have hm : t ∈ [39] := by simpa using Array.mem_of_getElem? ht
        have hall : ([39].all fun u => !Tryz.prog.wantsStandIn u) = true := by kernel_rfl
        exact (show Tryz.prog.wantsStandIn t = false by simpa using List.all_eq_true.1 hall t hm)⟩)
    (by kernel_rfl)
#print axioms proved
end Go.Proofs.YtjmkecaljkcoiaaGreatDoor.msgDecodes
