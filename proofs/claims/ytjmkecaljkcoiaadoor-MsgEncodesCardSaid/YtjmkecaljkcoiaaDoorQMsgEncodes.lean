import Derived.Test.YtjmkecaljkcoiaaDoorCards
import Derived.Test.YtjmkecaljkcoiaaDoorTie
import Derived.WalkKit
import Derived.ProofKit
import Derived.OpenShut
import Derived.ShutString
import Derived.ChangeOld
import Derived.Below
import Derived.Deep.DeepHandedRow
import Derived.Deep.DeepWitnessRowRef
import Derived.Lib.LaidTab
import Derived.LaidMore
import Derived.Test.YtjmkecaljkcoiaaDoorQOpenF
import Derived.Test.YtjmkecaljkcoiaaDoorQOpenMg
import Derived.Test.YtjmkecaljkcoiaaDoorQLaid10
import Derived.Test.YtjmkecaljkcoiaaDoorQMsg8
import Derived.Test.YtjmkecaljkcoiaaDoorQMsg9
namespace Go.Proofs.YtjmkecaljkcoiaaDoor.msgEncodes
open Go.ChangeShapes Go.WideShapes Go.ChangeAt Go.RowKit
open Go.ChangeMaps (open_string shut_string)
set_option linter.unusedVariables false
set_option linter.unusedSimpArgs false
theorem kinds_laid {W : World} (h : laidMetH Tryd.prog Rows.msgEncodesRow.laid W) : Kinds W := by
  have h' : laidMetH Tryd.prog [("choragus/msg.kinds", Rows.laid_choragus_msg_kinds)] W := h
  rw [MakeChecks.laidMetH_plain _ _ _ (by kernel_rfl)] at h'
  exact kinds_of h'
set_option maxRecDepth 100000 in
set_option maxHeartbeats 4000000 in
theorem walk (z : Mx) (w : World) (h : MxIn w w.heap.size z) (hL : laidMetH Tryd.prog Rows.msgEncodesRow.laid w) :
    Calls Tryd.prog 3 #[.agg #[.int .i64 z.kind, .int .u16 (z.who.i : Int), .int .u32 (z.who.k : Int), .int .u64 (z.view : Int), .int .u64 (z.slot : Int), .int .u64 (z.num : Int), .int .i64 z.hops, .int .u32 (z.b.r : Int), .int .u16 (z.b.p.i : Int), .int .u32 (z.b.p.k : Int), .int .u32 (z.a.r : Int), .int .u16 (z.a.p.i : Int), .int .u32 (z.a.p.k : Int), .bool z.has, .int .i64 z.y.kind, .int .u16 (z.y.p.i : Int), .int .u32 (z.y.p.k : Int), .int .u64 (z.y.num : Int), .int .u64 (z.y.vn : Int), .slice z.y.A z.y.n z.y.c, .int .u64 (z.y.x.id : Int), .slice z.y.x.A z.y.x.m z.y.x.c, .slice z.y.x.B z.y.x.d z.y.x.e, .slice z.y.x.C z.y.x.f z.y.x.g, .int .u64 (z.x.id : Int), .slice z.x.A z.x.m z.x.c, .slice z.x.B z.x.d z.x.e, .slice z.x.C z.x.f z.x.g, .slice z.A z.n z.c]] w fun e w' => e = .returned (.bool true) ∧ Below w.heap.size w w' := by
  have hK := kinds_laid hL
  clear hL
  have hbz : Below w.heap.size w (w.alloc (.cells #[.int .i64 z.kind, .int .u16 (z.who.i : Int), .int .u32 (z.who.k : Int), .int .u64 (z.view : Int), .int .u64 (z.slot : Int), .int .u64 (z.num : Int), .int .i64 z.hops, .int .u32 (z.b.r : Int), .int .u16 (z.b.p.i : Int), .int .u32 (z.b.p.k : Int), .int .u32 (z.a.r : Int), .int .u16 (z.a.p.i : Int), .int .u32 (z.a.p.k : Int), .bool z.has, .int .i64 z.y.kind, .int .u16 (z.y.p.i : Int), .int .u32 (z.y.p.k : Int), .int .u64 (z.y.num : Int), .int .u64 (z.y.vn : Int), .slice z.y.A z.y.n z.y.c, .int .u64 (z.y.x.id : Int), .slice z.y.x.A z.y.x.m z.y.x.c, .slice z.y.x.B z.y.x.d z.y.x.e, .slice z.y.x.C z.y.x.f z.y.x.g, .int .u64 (z.x.id : Int), .slice z.x.A z.x.m z.x.c, .slice z.x.B z.x.d z.x.e, .slice z.x.C z.x.f z.x.g, .slice z.A z.n z.c] 37)) := (Below.refl _ _).alloc (Nat.le_refl _) _
  have v0 := MAt10.mk_ w z
  have AW := fun W (hb : Below w.heap.size w W) => (awake10_any W (hK.later hb)).mono (fun e w' (hh : e = .returned (.bool true) ∧ Below W.heap.size W w') => (⟨hh.1, hb.trans (hh.2.mono hb.size)⟩ : e = .returned (.bool true) ∧ Below w.heap.size w w'))
  have cg := great10_any z w.heap.size (w.alloc (.cells #[.int .i64 z.kind, .int .u16 (z.who.i : Int), .int .u32 (z.who.k : Int), .int .u64 (z.view : Int), .int .u64 (z.slot : Int), .int .u64 (z.num : Int), .int .i64 z.hops, .int .u32 (z.b.r : Int), .int .u16 (z.b.p.i : Int), .int .u32 (z.b.p.k : Int), .int .u32 (z.a.r : Int), .int .u16 (z.a.p.i : Int), .int .u32 (z.a.p.k : Int), .bool z.has, .int .i64 z.y.kind, .int .u16 (z.y.p.i : Int), .int .u32 (z.y.p.k : Int), .int .u64 (z.y.num : Int), .int .u64 (z.y.vn : Int), .slice z.y.A z.y.n z.y.c, .int .u64 (z.y.x.id : Int), .slice z.y.x.A z.y.x.m z.y.x.c, .slice z.y.x.B z.y.x.d z.y.x.e, .slice z.y.x.C z.y.x.f z.y.x.g, .int .u64 (z.x.id : Int), .slice z.x.A z.x.m z.x.c, .slice z.x.B z.x.d z.x.e, .slice z.x.C z.x.f z.x.g, .slice z.A z.n z.c] 37)) (h.below hbz) hbz.size
  unfold Great10P at cg
  have ZIN := fun W (hb : Below w.heap.size w W) => h.below hb
  have KIN := fun W (hb : Below w.heap.size w W) => hK.later hb
  have HZ := hide (And.intro ZIN KIN)
  have HAW := hide AW
  clear h hK AW ZIN KIN
  generalize hw1 : w.alloc (.cells #[.int .i64 z.kind, .int .u16 (z.who.i : Int), .int .u32 (z.who.k : Int), .int .u64 (z.view : Int), .int .u64 (z.slot : Int), .int .u64 (z.num : Int), .int .i64 z.hops, .int .u32 (z.b.r : Int), .int .u16 (z.b.p.i : Int), .int .u32 (z.b.p.k : Int), .int .u32 (z.a.r : Int), .int .u16 (z.a.p.i : Int), .int .u32 (z.a.p.k : Int), .bool z.has, .int .i64 z.y.kind, .int .u16 (z.y.p.i : Int), .int .u32 (z.y.p.k : Int), .int .u64 (z.y.num : Int), .int .u64 (z.y.vn : Int), .slice z.y.A z.y.n z.y.c, .int .u64 (z.y.x.id : Int), .slice z.y.x.A z.y.x.m z.y.x.c, .slice z.y.x.B z.y.x.d z.y.x.e, .slice z.y.x.C z.y.x.f z.y.x.g, .int .u64 (z.x.id : Int), .slice z.x.A z.x.m z.x.c, .slice z.x.B z.x.d z.x.e, .slice z.x.C z.x.f z.x.g, .slice z.A z.n z.c] 37) = w1 at *
  go_enter Tryd.func3, Tryd.ntmps3
  go_wp2_with (refine wpList_load_msg z w.heap.size rfl (.tmp 1) rfl rfl v0 ?_)
  refine cg.mono ?_
  rintro e w2 ⟨gb, rfl, hsm, hb⟩
  have hb2 := hbz.trans (hb.mono hbz.size)
  have v2 := v0.later hb
  clear cg hw1 v0 hb hbz
  cases gb
  case true =>
    clear hsm
    have aw := HAW.out w2 hb2
    go_wp2_with fail
    refine aw.mono ?_
    rintro e w3 ⟨rfl, hb3⟩
    go_wp2
    go_ret
    exact ⟨rfl, hb3⟩
  have hs := hsm (by first | rfl | trivial)
  clear hsm
  by_cases hmay : MayM z.m
  · have ce := encode10_yes z w.heap.size w2 (HZ.out.1 w2 hb2) hs hb2.size (HZ.out.2 w2 hb2) hmay
    obtain ⟨L, hLL⟩ : ∃ L, L = formM z.m := ⟨_, rfl⟩
    have hlen : L.length ≤ 2000000 := by rw [hLL]; exact formM_len hmay
    rw [← hLL] at ce
    have HM := hide (And.intro hmay (And.intro hs hLL))
    clear hmay hs hLL
    go_wp2_with (refine wpList_load_msg z w.heap.size rfl (.tmp 1) rfl rfl v2 ?_)
    refine ce.mono ?_
    rintro e w3 ⟨A3, c3, rfl, ho3, hb⟩
    have hb3 := hb2.trans (hb.mono hb2.size)
    have v3 := v2.later hb
    have cc := rcheck10_any z w.heap.size w3 true (HZ.out.1 w3 hb3) HM.out.2.1 hb3.size ⟨fun _ => HM.out.1, fun _ => rfl⟩
    clear ce v2 hb hb2
    go_wp2_with (refine wpList_load_msg z w.heap.size rfl (.tmp 1) rfl rfl v3 ?_)
    refine cc.mono ?_
    rintro e w4 ⟨rfl, hb⟩
    have hb4 := hb3.trans (hb.mono hb3.size)
    have v4 := v3.later hb
    have ho4 := ho3.later hb
    have cf := rform10_any z w.heap.size w4 (HZ.out.1 w4 hb4) HM.out.2.1 hb4.size HM.out.1
    rw [← HM.out.2.2] at cf
    clear cc v3 hb hb3 ho3
    go_wp2_with (refine wpList_load_msg z w.heap.size rfl (.tmp 1) rfl rfl v4 ?_)
    refine cf.mono ?_
    rintro e w5 ⟨A5, c5, rfl, ho5, hb⟩
    have hb5 := hb4.trans (hb.mono hb4.size)
    have v5 := v4.later hb
    have ho6 := ho4.later hb
    have cs := same_eq A3 A5 L.length L.length c3 c5 L L _ _ w5 ho6.bs ho5.bs (by unfold maxLen; omega) rfl
    clear cf v4 hb hb4 ho4
    go_wp2_with fail
    refine cs.mono ?_
    rintro e w6 ⟨rfl, hd⟩
    have hb6 := hb5.trans ((drawn_below hd).mono hb5.size)
    have v6 := v5.later (drawn_below hd)
    have ck : Calls Tryd.prog 11 #[.agg #[.int .i64 z.kind, .int .u16 (z.who.i : Int), .int .u32 (z.who.k : Int), .int .u64 (z.view : Int), .int .u64 (z.slot : Int), .int .u64 (z.num : Int), .int .i64 z.hops, .int .u32 (z.b.r : Int), .int .u16 (z.b.p.i : Int), .int .u32 (z.b.p.k : Int), .int .u32 (z.a.r : Int), .int .u16 (z.a.p.i : Int), .int .u32 (z.a.p.k : Int), .bool z.has, .int .i64 z.y.kind, .int .u16 (z.y.p.i : Int), .int .u32 (z.y.p.k : Int), .int .u64 (z.y.num : Int), .int .u64 (z.y.vn : Int), .slice z.y.A z.y.n z.y.c, .int .u64 (z.y.x.id : Int), .slice z.y.x.A z.y.x.m z.y.x.c, .slice z.y.x.B z.y.x.d z.y.x.e, .slice z.y.x.C z.y.x.f z.y.x.g, .int .u64 (z.x.id : Int), .slice z.x.A z.x.m z.x.c, .slice z.x.B z.x.d z.x.e, .slice z.x.C z.x.f z.x.g, .slice z.A z.n z.c]] w6 (fun e w' => e = .returned (.int .i64 0) ∧ Below w6.heap.size w6 w') := check10_any z w.heap.size w6 true (HZ.out.1 w6 hb6) HM.out.2.1 hb6.size (HZ.out.2 w6 hb6) ⟨fun _ => HM.out.1, fun _ => rfl⟩
    clear cs hd v5 hb5 ho5 ho6
    go_wp2_with (first | refine wpList_load_msg z w.heap.size rfl (.tmp 1) rfl rfl v6 ?_ | refine wpList_load_msg_yes z w.heap.size rfl (.tmp 1) rfl rfl v6 ?_)
    refine ck.mono ?_
    rintro e w7 ⟨rfl, hb⟩
    have hb7 := hb6.trans (hb.mono hb6.size)
    have aw := HAW.out w7 hb7
    clear ck v6 hb hb6
    go_wp2_with fail
    refine aw.mono ?_
    rintro e w8 ⟨rfl, hb8⟩
    go_wp2
    go_ret
    exact ⟨rfl, hb8⟩
  · have ce := encode10_no z w.heap.size w2 (HZ.out.1 w2 hb2) hs hb2.size (HZ.out.2 w2 hb2) hmay
    have HM := hide (And.intro hmay hs)
    clear hmay hs
    go_wp2_with (refine wpList_load_msg z w.heap.size rfl (.tmp 1) rfl rfl v2 ?_)
    refine ce.mono ?_
    rintro e w3 ⟨rfl, hb⟩
    have hb3 := hb2.trans (hb.mono hb2.size)
    have v3 := v2.later hb
    have cc := rcheck10_any z w.heap.size w3 false (HZ.out.1 w3 hb3) HM.out.2 hb3.size ⟨fun e => (by cases e), fun e => absurd e HM.out.1⟩
    clear ce v2 hb hb2
    go_wp2_with (refine wpList_load_msg z w.heap.size rfl (.tmp 1) rfl rfl v3 ?_)
    refine cc.mono ?_
    rintro e w4 ⟨rfl, hb⟩
    have hb4 := hb3.trans (hb.mono hb3.size)
    have v4 := v3.later hb
    have ck : Calls Tryd.prog 11 #[.agg #[.int .i64 z.kind, .int .u16 (z.who.i : Int), .int .u32 (z.who.k : Int), .int .u64 (z.view : Int), .int .u64 (z.slot : Int), .int .u64 (z.num : Int), .int .i64 z.hops, .int .u32 (z.b.r : Int), .int .u16 (z.b.p.i : Int), .int .u32 (z.b.p.k : Int), .int .u32 (z.a.r : Int), .int .u16 (z.a.p.i : Int), .int .u32 (z.a.p.k : Int), .bool z.has, .int .i64 z.y.kind, .int .u16 (z.y.p.i : Int), .int .u32 (z.y.p.k : Int), .int .u64 (z.y.num : Int), .int .u64 (z.y.vn : Int), .slice z.y.A z.y.n z.y.c, .int .u64 (z.y.x.id : Int), .slice z.y.x.A z.y.x.m z.y.x.c, .slice z.y.x.B z.y.x.d z.y.x.e, .slice z.y.x.C z.y.x.f z.y.x.g, .int .u64 (z.x.id : Int), .slice z.x.A z.x.m z.x.c, .slice z.x.B z.x.d z.x.e, .slice z.x.C z.x.f z.x.g, .slice z.A z.n z.c]] w4 (fun e w' => e = .returned (.int .i64 1) ∧ Below w4.heap.size w4 w') := check10_any z w.heap.size w4 false (HZ.out.1 w4 hb4) HM.out.2 hb4.size (HZ.out.2 w4 hb4) ⟨fun e => (by cases e), fun e => absurd e HM.out.1⟩
    clear cc v3 hb hb3
    go_wp2_with (first | refine wpList_load_msg z w.heap.size rfl (.tmp 1) rfl rfl v4 ?_ | refine wpList_load_msg_yes z w.heap.size rfl (.tmp 1) rfl rfl v4 ?_)
    refine ck.mono ?_
    rintro e w5 ⟨rfl, hb⟩
    have hb5 := hb4.trans (hb.mono hb4.size)
    have aw := HAW.out w5 hb5
    clear ck v4 hb hb4
    go_wp2_with fail
    refine aw.mono ?_
    rintro e w6 ⟨rfl, hb6⟩
    go_wp2
    go_ret
    exact ⟨rfl, hb6⟩
set_option maxRecDepth 100000 in
theorem contract (H : Type) (enc : TypeId × Value → H) (W : World) (base : Nat) (args : Array Value) (ds gs : List (DataW H)) (before : List MemPlace)
    (hval : ∀ (j : Nat) t v, Tryd.f3.params[j]? = some t → args[j]? = some v → Value.okWide Tryd.prog W .any base t v)
    (hW : DataW.Whole enc Tryd.prog Tryd.f3.params.toList Rows.msgEncodesSpec.vars false W args.toList ds gs before)
    (_hsz : (DataW.weightsEach Tryd.prog (Tryd.f3.params.toList ++ (OpenSpec.ofChange Rows.msgEncodesSpec).bare.plain.varTypes Tryd.prog) (ds ++ gs)).all (· ≤ reachBytes) = true)
    (_hL : laidMetH Tryd.prog Rows.msgEncodesRow.laid W) :
    Calls Tryd.prog 3 args W fun e W' => ∃ v, e = .returned v ∧ Rows.msgEncodesSpec.post enc Tryd.prog Tryd.f3 false true false false W args v W' := by
  have hW' := hW
  obtain ⟨p, q, hA0, hV, rfl, hfz, hnd⟩ := hW
  have hA : DataW.TrodAll enc Tryd.prog W 0 (fun _ => true) true Tryd.f3.params.toList args.toList ds p := hA0
  rw [Tryd.params3] at hA hval _hsz
  obtain ⟨v0, vs0, d0, ds0, p0, q0, hargs, rfl, rfl, h0, r0⟩ := trodAll_cons hA
  obtain ⟨rfl, rfl, rfl⟩ := trodAll_nil r0
  obtain rfl : args = #[v0] := by cases args; simp_all
  obtain ⟨rfl, rfl⟩ := trodVars_none hV
  have k0 := h0
  have lt0 : ∀ x ∈ p0, x.block < W.heap.size := by obtain ⟨m, hm⟩ := k0; exact DataW.trod_lt m _ _ _ hm
  obtain ⟨x0, rfl, hx0⟩ := open_msg (hval 0 37 v0 rfl rfl) h0
  clear hA0
  refine (walk x0 W hx0 _hL).mono fun e W' ⟨he, bel⟩ => ?_
  subst he
  exact ⟨_, rfl, _, _, _, [], _, [], hW', trodAll_mk1 (shut_bool Tryd.underlying4 _), (trodAll_cons_mk (Below.trod laidOut (by kernel_rfl) (of_decide_eq_true (by kernel_rfl)) k0 bel lt0) trodAll_mk0), rfl, bel.frame _, fun h => by cases h⟩
theorem laid_met (os : Os) : laidMet Tryd.prog Rows.msgEncodesRow.laid (((World.doorLaid Tryd.prog 400 os)).forCall (fun _ _ => 0) ⟨#[], #[.agg #[.int .i64 0, .int .u16 0, .int .u32 0, .int .u64 0, .int .u64 0, .int .u64 0, .int .i64 0, .int .u32 0, .int .u16 0, .int .u32 0, .int .u32 0, .int .u16 0, .int .u32 0, .bool false, .int .i64 0, .int .u16 0, .int .u32 0, .int .u64 0, .int .u64 0, .slice none 0 0, .int .u64 0, .slice none 0 0, .slice none 0 0, .slice none 0 0, .int .u64 0, .slice none 0 0, .slice none 0 0, .slice none 0 0, .slice none 0 0]], []⟩).memory :=
  laidMet_of_run' 8 (by kernel_rfl) (by kernel_rfl)
theorem reads (os : Os) {H : Type} (enc : TypeId × Value → H) : ∃ places, DataW.whole enc Tryd.prog (((World.doorLaid Tryd.prog 400 os)).forCall (fun _ _ => 0) ⟨#[], #[.agg #[.int .i64 0, .int .u16 0, .int .u32 0, .int .u64 0, .int .u64 0, .int .u64 0, .int .i64 0, .int .u32 0, .int .u16 0, .int .u32 0, .int .u32 0, .int .u16 0, .int .u32 0, .bool false, .int .i64 0, .int .u16 0, .int .u32 0, .int .u64 0, .int .u64 0, .slice none 0 0, .int .u64 0, .slice none 0 0, .slice none 0 0, .slice none 0 0, .int .u64 0, .slice none 0 0, .slice none 0 0, .slice none 0 0, .slice none 0 0]], []⟩).memory Tryd.f3.params.toList Rows.msgEncodesSpec.vars false (#[.agg #[.int .i64 0, .int .u16 0, .int .u32 0, .int .u64 0, .int .u64 0, .int .u64 0, .int .i64 0, .int .u32 0, .int .u16 0, .int .u32 0, .int .u32 0, .int .u16 0, .int .u32 0, .bool false, .int .i64 0, .int .u16 0, .int .u32 0, .int .u64 0, .int .u64 0, .slice none 0 0, .int .u64 0, .slice none 0 0, .slice none 0 0, .slice none 0 0, .int .u64 0, .slice none 0 0, .slice none 0 0, .slice none 0 0, .slice none 0 0]] : Array Value).toList 8 = some ([.agg [.lit (.int .i64 0), .agg [.lit (.int .u16 0), .lit (.int .u32 0)], .lit (.int .u64 0), .lit (.int .u64 0), .lit (.int .u64 0), .lit (.int .i64 0), .agg [.lit (.int .u32 0), .agg [.lit (.int .u16 0), .lit (.int .u32 0)]], .agg [.lit (.int .u32 0), .agg [.lit (.int .u16 0), .lit (.int .u32 0)]], .lit (.bool false), .agg [.lit (.int .i64 0), .agg [.lit (.int .u16 0), .lit (.int .u32 0)], .lit (.int .u64 0), .lit (.int .u64 0), .nil, .agg [.lit (.int .u64 0), .nil, .nil, .nil]], .agg [.lit (.int .u64 0), .nil, .nil, .nil], .nil]], [], places) :=
  ⟨[], by kernel_rfl⟩
set_option maxRecDepth 100000 in
theorem lifted (os : Os) (started : os.Started) (H : Type) (enc : TypeId × Value → H) (F : Stop.Interp) :
    ReturnsInHanded {} Tryd.checked os 3 .any ((OpenSpec.ofChange Rows.msgEncodesSpec).preRow enc Tryd.prog Tryd.f3 Rows.msgEncodesRow.domain false Rows.msgEncodesRow.laid) (((OpenSpec.ofChange Rows.msgEncodesSpec).at F).post enc Tryd.prog Tryd.f3 false true false false) := by
  obtain ⟨places, hx⟩ := reads os enc
  refine returnsInHanded_of_row (C := Tryd.checked) (s := OpenSpec.ofChange Rows.msgEncodesSpec) own started (by kernel_rfl) Tryd.func3
    (witness_row_atRef (enc := enc) (C := Tryd.checked) false (World.doorLaid Tryd.prog 400 os) #[.agg #[.int .i64 0, .int .u16 0, .int .u32 0, .int .u64 0, .int .u64 0, .int .u64 0, .int .i64 0, .int .u32 0, .int .u16 0, .int .u32 0, .int .u32 0, .int .u16 0, .int .u32 0, .bool false, .int .i64 0, .int .u16 0, .int .u32 0, .int .u64 0, .int .u64 0, .slice none 0 0, .int .u64 0, .slice none 0 0, .slice none 0 0, .slice none 0 0, .int .u64 0, .slice none 0 0, .slice none 0 0, .slice none 0 0, .slice none 0 0]] rfl (by kernel_rfl) (by kernel_rfl) (by kernel_rfl)
      (OpenSpec.preRow_of_cond 8 hx (by kernel_rfl) (fun k hk => by cases hk) (by kernel_rfl) (laid_met os))) ?_
  intro W base args ds gs before hval hW _ _ hsz hL _ _
  exact contract H enc W base args ds gs before hval hW hsz hL
theorem said : Rows.MsgEncodesSaid :=
  OpenClaim.holds_of_cond 3 Tryd.f3 rfl rfl rfl rfl rfl rfl rfl ⟨rfl, rfl, rfl, rfl, rfl⟩ rfl rfl rfl rfl rfl (by kernel_rfl) Tryd.func3 (by kernel_rfl)
    (of_decide_eq_true (by kernel_rfl)) (by unfold Func.isWrapper; first | (rw [if_pos (by decide +kernel)]; kernel_rfl) | (rw [if_neg (by decide +kernel)]; exact ⟨rfl, rfl⟩))
    (fun os started H enc _ F => by rw [OpenClaim.pre_eq_preRow]; exact lifted os started H enc F)
theorem proved : Rows.MsgEncodesCardSaid :=
  Claim7.holds_tied_plain_at .later [] _ _ _ _ said (fun _ h => by cases h) (by kernel_rfl) (fun _ h => by cases h) msgEncodes_row_tie rfl ⟨rfl, rfl⟩ (by kernel_rfl) rfl
    (fun f fn hf hfn => by
      obtain rfl : f = 3 := Option.some.inj ((show Tryd.prog.funcNamed "choragus/choraguslaw10.MsgEncodes" = some 3 by kernel_rfl).symm.trans hf) |>.symm
      obtain rfl : fn = Tryd.f3 := (Option.some.inj (Tryd.func3.symm.trans hfn)).symm
      exact ⟨by kernel_rfl, fun j t ht => by
        rw [Tryd.params3] at ht
        have hm : t ∈ [37] := by simpa using Array.mem_of_getElem? ht
        have hall : ([37].all fun u => !Tryd.prog.wantsStandIn u) = true := by kernel_rfl
        exact (show Tryd.prog.wantsStandIn t = false by simpa using List.all_eq_true.1 hall t hm)⟩)
    (by kernel_rfl)
#print axioms proved
end Go.Proofs.YtjmkecaljkcoiaaDoor.msgEncodes
