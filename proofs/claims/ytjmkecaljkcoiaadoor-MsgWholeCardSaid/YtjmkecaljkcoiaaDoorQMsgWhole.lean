/-
  The law choraguslaw10.MsgWhole answers true, and does not panic, for every argument that its row allows; its card ties what the row lists to the program's text. Conditions: none but the row's own.
-/
import Derived.Test.YtjmkecaljkcoiaaDoorCards
import Derived.Test.YtjmkecaljkcoiaaDoorTie
import Derived.WalkKit
import Derived.ProofKit
import Derived.OpenShut
import Derived.ShutString
import Derived.ChangeOld
import Derived.Below
import Derived.Deep.DeepHandedRow
import Derived.Deep.DeepWitnessRowRef
import Derived.Lib.LaidTab
import Derived.LaidMore
import Derived.Test.YtjmkecaljkcoiaaDoorQOpenF
import Derived.Test.YtjmkecaljkcoiaaDoorQOpenMg
import Derived.Test.YtjmkecaljkcoiaaDoorQLaid10
import Derived.Test.YtjmkecaljkcoiaaDoorQMsg10M
import Derived.Test.YtjmkecaljkcoiaaDoorQMsg12
import Derived.Test.YtjmkecaljkcoiaaDoorQMsg10E
import Derived.Test.YtjmkecaljkcoiaaDoorQOpenT
namespace Go.Proofs.YtjmkecaljkcoiaaDoor.msgWhole
open Go.ChangeShapes Go.WideShapes Go.ChangeAt Go.RowKit
open Go.ChangeMaps (open_string shut_string)
set_option linter.unusedVariables false
set_option linter.unusedSimpArgs false

theorem kinds_laid {W : World} (h : laidMetH Tryd.prog Rows.msgWholeRow.laid W) : Kinds W := by
  have h' : laidMetH Tryd.prog [("choragus/msg.kinds", Rows.laid_choragus_msg_kinds)] W := h
  rw [MakeChecks.laidMetH_plain _ _ _ (by kernel_rfl)] at h'
  exact kinds_of h'
set_option maxRecDepth 100000 in
set_option maxHeartbeats 4000000 in
theorem walk (z : Mx) (k : Int) (x : Int) (w : World) (h : MxIn w w.heap.size z) (hk0 : (Lit.int .i64 k).wf = true) (hx0 : (Lit.int .u8 x).wf = true) (hL : laidMetH Tryd.prog Rows.msgWholeRow.laid w) :
    Calls Tryd.prog 5 #[.agg #[.int .i64 z.kind, .int .u16 (z.who.i : Int), .int .u32 (z.who.k : Int), .int .u64 (z.view : Int), .int .u64 (z.slot : Int), .int .u64 (z.num : Int), .int .i64 z.hops, .int .u32 (z.b.r : Int), .int .u16 (z.b.p.i : Int), .int .u32 (z.b.p.k : Int), .int .u32 (z.a.r : Int), .int .u16 (z.a.p.i : Int), .int .u32 (z.a.p.k : Int), .bool z.has, .int .i64 z.y.kind, .int .u16 (z.y.p.i : Int), .int .u32 (z.y.p.k : Int), .int .u64 (z.y.num : Int), .int .u64 (z.y.vn : Int), .slice z.y.A z.y.n z.y.c, .int .u64 (z.y.x.id : Int), .slice z.y.x.A z.y.x.m z.y.x.c, .slice z.y.x.B z.y.x.d z.y.x.e, .slice z.y.x.C z.y.x.f z.y.x.g, .int .u64 (z.x.id : Int), .slice z.x.A z.x.m z.x.c, .slice z.x.B z.x.d z.x.e, .slice z.x.C z.x.f z.x.g, .slice z.A z.n z.c], .int .i64 k, .int .u8 x] w fun e w' => e = .returned (.bool true) ∧ Below w.heap.size w w' := by
  have hk := wf_i64 hk0
  have hx := wf_u8 hx0
  clear hk0 hx0
  have hK := kinds_laid hL
  clear hL
  have hbz : Below w.heap.size w (w.alloc (.cells #[.int .i64 z.kind, .int .u16 (z.who.i : Int), .int .u32 (z.who.k : Int), .int .u64 (z.view : Int), .int .u64 (z.slot : Int), .int .u64 (z.num : Int), .int .i64 z.hops, .int .u32 (z.b.r : Int), .int .u16 (z.b.p.i : Int), .int .u32 (z.b.p.k : Int), .int .u32 (z.a.r : Int), .int .u16 (z.a.p.i : Int), .int .u32 (z.a.p.k : Int), .bool z.has, .int .i64 z.y.kind, .int .u16 (z.y.p.i : Int), .int .u32 (z.y.p.k : Int), .int .u64 (z.y.num : Int), .int .u64 (z.y.vn : Int), .slice z.y.A z.y.n z.y.c, .int .u64 (z.y.x.id : Int), .slice z.y.x.A z.y.x.m z.y.x.c, .slice z.y.x.B z.y.x.d z.y.x.e, .slice z.y.x.C z.y.x.f z.y.x.g, .int .u64 (z.x.id : Int), .slice z.x.A z.x.m z.x.c, .slice z.x.B z.x.d z.x.e, .slice z.x.C z.x.f z.x.g, .slice z.A z.n z.c] 37)) := (Below.refl _ _).alloc (Nat.le_refl _) _
  have v0 := MAt10.mk_ w z
  have AW := fun W (hb : Below w.heap.size w W) => (awake10_any W (hK.later hb)).mono (fun e w' (hh : e = .returned (.bool true) ∧ Below W.heap.size W w') => (⟨hh.1, hb.trans (hh.2.mono hb.size)⟩ : e = .returned (.bool true) ∧ Below w.heap.size w w'))
  have cg := great10_any z w.heap.size (w.alloc (.cells #[.int .i64 z.kind, .int .u16 (z.who.i : Int), .int .u32 (z.who.k : Int), .int .u64 (z.view : Int), .int .u64 (z.slot : Int), .int .u64 (z.num : Int), .int .i64 z.hops, .int .u32 (z.b.r : Int), .int .u16 (z.b.p.i : Int), .int .u32 (z.b.p.k : Int), .int .u32 (z.a.r : Int), .int .u16 (z.a.p.i : Int), .int .u32 (z.a.p.k : Int), .bool z.has, .int .i64 z.y.kind, .int .u16 (z.y.p.i : Int), .int .u32 (z.y.p.k : Int), .int .u64 (z.y.num : Int), .int .u64 (z.y.vn : Int), .slice z.y.A z.y.n z.y.c, .int .u64 (z.y.x.id : Int), .slice z.y.x.A z.y.x.m z.y.x.c, .slice z.y.x.B z.y.x.d z.y.x.e, .slice z.y.x.C z.y.x.f z.y.x.g, .int .u64 (z.x.id : Int), .slice z.x.A z.x.m z.x.c, .slice z.x.B z.x.d z.x.e, .slice z.x.C z.x.f z.x.g, .slice z.A z.n z.c] 37)) (h.below hbz) hbz.size
  unfold Great10P at cg
  have ZIN := fun W (hb : Below w.heap.size w W) => h.below hb
  have KIN := fun W (hb : Below w.heap.size w W) => hK.later hb
  have HZ := hide (And.intro ZIN KIN)
  have HAW := hide AW
  clear h hK AW ZIN KIN
  obtain ⟨x0, rfl⟩ := Int.eq_ofNat_of_zero_le hx.1
  obtain ⟨c, hc⟩ : ∃ c : UInt8, c.toNat = x0 := ⟨UInt8.ofNat x0, by simp; omega⟩
  have HC := hide hc
  clear hc
  generalize hw1 : w.alloc (.cells #[.int .i64 z.kind, .int .u16 (z.who.i : Int), .int .u32 (z.who.k : Int), .int .u64 (z.view : Int), .int .u64 (z.slot : Int), .int .u64 (z.num : Int), .int .i64 z.hops, .int .u32 (z.b.r : Int), .int .u16 (z.b.p.i : Int), .int .u32 (z.b.p.k : Int), .int .u32 (z.a.r : Int), .int .u16 (z.a.p.i : Int), .int .u32 (z.a.p.k : Int), .bool z.has, .int .i64 z.y.kind, .int .u16 (z.y.p.i : Int), .int .u32 (z.y.p.k : Int), .int .u64 (z.y.num : Int), .int .u64 (z.y.vn : Int), .slice z.y.A z.y.n z.y.c, .int .u64 (z.y.x.id : Int), .slice z.y.x.A z.y.x.m z.y.x.c, .slice z.y.x.B z.y.x.d z.y.x.e, .slice z.y.x.C z.y.x.f z.y.x.g, .int .u64 (z.x.id : Int), .slice z.x.A z.x.m z.x.c, .slice z.x.B z.x.d z.x.e, .slice z.x.C z.x.f z.x.g, .slice z.A z.n z.c] 37) = w1 at *
  go_enter Tryd.func5, Tryd.ntmps5
  go_wp2_with (refine wpList_load_msg z w.heap.size rfl (.tmp 3) rfl rfl v0 ?_)
  refine cg.mono ?_
  rintro e w2 ⟨gb, rfl, hsm, hb⟩
  have hb2 := hbz.trans (hb.mono hbz.size)
  have v2 := v0.later hb
  clear cg hw1 v0 hb hbz
  cases gb
  case true =>
    clear hsm
    have aw := HAW.out w2 hb2
    go_wp2_with fail
    refine aw.mono ?_
    rintro e w3 ⟨rfl, hb3⟩
    go_wp2
    go_ret
    exact ⟨rfl, hb3⟩
  have hs := hsm (by first | rfl | trivial)
  clear hsm
  by_cases hmay : MayM z.m
  case neg =>
    have ce := encode10_no z w.heap.size w2 (HZ.out.1 w2 hb2) hs hb2.size (HZ.out.2 w2 hb2) hmay
    clear hmay hs
    go_wp2_with (refine wpList_load_msg z w.heap.size rfl (.tmp 3) rfl rfl v2 ?_)
    refine ce.mono ?_
    rintro e w3 ⟨rfl, hb⟩
    have hb3 := hb2.trans (hb.mono hb2.size)
    have aw := HAW.out w3 hb3
    clear ce v2 hb hb2
    go_wp2_with fail
    refine aw.mono ?_
    rintro e w4 ⟨rfl, hb4⟩
    go_wp2
    go_ret
    exact ⟨rfl, hb4⟩
  have ce := encode10_yes z w.heap.size w2 (HZ.out.1 w2 hb2) hs hb2.size (HZ.out.2 w2 hb2) hmay
  obtain ⟨L, hLL⟩ : ∃ L, L = formM z.m := ⟨_, rfl⟩
  obtain ⟨n, hn⟩ : ∃ n, n = L.length := ⟨_, rfl⟩
  have hlen : n ≤ 2000000 := by rw [hn, hLL]; exact formM_len hmay
  have hpos : 1 ≤ n := by
    rw [hn, hLL]
    unfold formM
    rw [List.length_append]
    have := (shortL_len z.m.kind.toNat).1
    omega
  have hbd := pickF_bd (a := k) (n := (n : Int)) (by omega)
  obtain ⟨j, hj⟩ := Int.eq_ofNat_of_zero_le hbd.1
  have hjn : j < n := by omega
  have hcut : (decM (L.take j)).2 ≠ 0 := by rw [hLL]; exact decM_cut hmay (by rw [← hLL, ← hn]; exact hjn)
  have hmore : decM (L ++ [c]) = (kindM 0, 5) := by rw [hLL]; exact decM_more hmay c
  have cp := fun W => pick_any k (n : Int) W hk.1 hk.2 (by omega) (by omega)
  rw [hj] at cp
  unfold EncP at ce
  rw [← hLL, ← hn] at ce
  have HM := hide (And.intro hcut (And.intro hmore hn))
  clear hmay hs hLL hcut hmore hbd hj hk hn
  go_wp2_with (refine wpList_load_msg z w.heap.size rfl (.tmp 3) rfl rfl v2 ?_)
  refine ce.mono ?_
  rintro e w3 ⟨A3, c3, rfl, ho3, hb⟩
  have hb3 := hb2.trans (hb.mono hb2.size)
  have hcap := OwnB.cap ho3
  have hbs := ho3.bs
  clear ce v2 hb
  have e1 : (j : Int) ≤ (c3 : Int) := by omega
  have e2 : (0 : Int) ≤ (j : Int) := by omega
  go_wp2_with (refine (cp _).mono ?_; rintro e w8 ⟨rfl, rfl⟩)
  have cd := decode10_any A3 j c3 (L.take j) w3.heap.size w3 (hbs.take (by omega)) (Nat.le_refl _) (by omega) (HZ.out.2 w3 hb3)
  unfold DecP10 at cd
  refine cd.mono ?_
  rintro e w4 ⟨y, rfl, hy, ho4, hyn, hys, hb⟩
  have hb4 := hb3.trans (hb.mono hb3.size)
  have ho5 := ho3.later hb
  have y4 : MAt10 (w4.alloc (.cells #[.int .i64 0, .int .u16 0, .int .u32 0, .int .u64 0, .int .u64 0, .int .u64 0, .int .i64 0, .int .u32 0, .int .u16 0, .int .u32 0, .int .u32 0, .int .u16 0, .int .u32 0, .bool false, .int .i64 0, .int .u16 0, .int .u32 0, .int .u64 0, .int .u64 0, .slice none 0 0, .int .u64 0, .slice none 0 0, .slice none 0 0, .slice none 0 0, .int .u64 0, .slice none 0 0, .slice none 0 0, .slice none 0 0, .slice none 0 0] 37)) w4.heap.size zeroM := MAt10.mk_ w4 zeroM
  obtain ⟨f, hf⟩ : ∃ f, f = (decM (L.take j)).2 := ⟨_, rfl⟩
  have hfn : ((f : Int) != 0) = true := by rw [bne_iff_ne]; have := HM.out.1; rw [← hf] at this; omega
  rw [← hf]
  clear cd cp hy ho4 hyn hys hb ho3 hbs hf e1 e2 hcap
  go_wp2_with (refine wpList_store_msg y zeroM w4.heap.size rfl (.tmp 9) (.tmp 32) rfl rfl rfl y4 ?_)
  intro w5 hst
  have ob : Below w4.heap.size w4 w5 := hst.below ((Below.refl _ _).alloc (Nat.le_refl _) _) (Nat.le_refl _)
  have hb5 := hb4.trans (ob.mono hb4.size)
  have ho6 := ho5.later ob
  have hbs := ho6.bs
  clear hst y4 ob ho5 hb4
  go_wp2_with (at_builtin; refine wp_bytes_own _ rfl (.tmp 35) (.tmp 36) rfl w5.heap.size 0 _ [] rfl (own_lit w5 _ 0 [] _ rfl rfl (by decide) (Nat.le_refl _)) _ A3 n c3 L rfl (ho6.alloc _).bs (by omega) w5.heap.size w5 ((Below.refl _ _).alloc (Nat.le_refl _) _) (Nat.le_refl _) (by simp) ?_)
  intro A6 c6 w6 ho7 hb6 hs6
  have hx255 : x0 ≤ 255 := by omega
  have hcell : (.int .u8 (x0 : Int) : Value) = byteV c := by unfold byteV; rw [HC.out]
  have hlit := own_lit w6 w6.heap.size 1 [c] #[.int .u8 (x0 : Int)] (by rw [hcell]; rfl) rfl (by decide) (Nat.le_refl _)
  clear hcell
  have hq6 := hb6.size
  have ho8 := ho7.alloc (.cells #[.int .u8 (x0 : Int)] 5)
  have hbl6 := hb6.alloc hq6 (.cells #[.int .u8 (x0 : Int)] 5)
  have hz6 := hbl6.size
  go_wp2_with (at_builtin; refine wp_bytes_own _ rfl (.tmp 37) (.tmp 39) rfl w5.heap.size n _ L rfl ho8 _ (some ⟨w6.heap.size, 0, none⟩) 1 1 [c] rfl hlit.bs (by omega) w5.heap.size w5 hbl6 (Nat.le_refl _) hz6 ?_)
  intro A7 c7 w7 ho9 hb7 hs7
  have hb8 := hb5.trans (hb7.mono hb5.size)
  have cd := decode10_any A7 (n + 1) c7 (L ++ [c]) w7.heap.size w7 ho9.bs (Nat.le_refl _) (by omega) (HZ.out.2 w7 hb8)
  rw [HM.out.2.1] at cd
  unfold DecP10 at cd
  clear hlit ho8 hbl6 hz6 ho7 hb6 hs6 hq6 ho6 hbs hs7 hb7 ho9 hb5
  go_wp2_with fail
  refine cd.mono ?_
  rintro e w8 ⟨y2, rfl, hy2, ho4, hyn, hys, hb⟩
  have hb9 := hb8.trans (hb.mono hb8.size)
  have y8 : MAt10 (w8.alloc (.cells #[.int .i64 0, .int .u16 0, .int .u32 0, .int .u64 0, .int .u64 0, .int .u64 0, .int .i64 0, .int .u32 0, .int .u16 0, .int .u32 0, .int .u32 0, .int .u16 0, .int .u32 0, .bool false, .int .i64 0, .int .u16 0, .int .u32 0, .int .u64 0, .int .u64 0, .slice none 0 0, .int .u64 0, .slice none 0 0, .slice none 0 0, .slice none 0 0, .int .u64 0, .slice none 0 0, .slice none 0 0, .slice none 0 0, .slice none 0 0] 37)) w8.heap.size zeroM := MAt10.mk_ w8 zeroM
  clear cd hy2 ho4 hyn hys hb hb8
  go_wp2_with (refine wpList_store_msg y2 zeroM w8.heap.size rfl (.tmp 11) (.tmp 42) rfl rfl rfl y8 ?_)
  intro w9 hst
  have ob : Below w8.heap.size w8 w9 := hst.below ((Below.refl _ _).alloc (Nat.le_refl _) _) (Nat.le_refl _)
  have hb10 := hb9.trans (ob.mono hb9.size)
  have aw := HAW.out w9 hb10
  clear hst y8 ob hb9 hb10
  go_wp2_with fail
  refine aw.mono ?_
  rintro e w10 ⟨rfl, hb11⟩
  go_wp2
  go_ret
  exact ⟨rfl, hb11⟩

/-! ### THE ROW's STEP, AND THE CARD -/
set_option maxRecDepth 100000 in
/-- What the walk gives, for every argument and every world that holds what the row lists. -/
theorem contract (H : Type) (enc : TypeId × Value → H) (W : World) (base : Nat) (args : Array Value) (ds gs : List (DataW H)) (before : List MemPlace)
    (hval : ∀ (j : Nat) t v, Tryd.f5.params[j]? = some t → args[j]? = some v → Value.okWide Tryd.prog W .any base t v)
    (hW : DataW.Whole enc Tryd.prog Tryd.f5.params.toList Rows.msgWholeSpec.vars false W args.toList ds gs before)
    (_hsz : (DataW.weightsEach Tryd.prog (Tryd.f5.params.toList ++ (OpenSpec.ofChange Rows.msgWholeSpec).bare.plain.varTypes Tryd.prog) (ds ++ gs)).all (· ≤ reachBytes) = true)
    (_hL : laidMetH Tryd.prog Rows.msgWholeRow.laid W) :
    Calls Tryd.prog 5 args W fun e W' => ∃ v, e = .returned v ∧ Rows.msgWholeSpec.post enc Tryd.prog Tryd.f5 false true false false W args v W' := by
  have hW' := hW
  obtain ⟨p, q, hA0, hV, rfl, hfz, hnd⟩ := hW
  have hA : DataW.TrodAll enc Tryd.prog W 0 (fun _ => true) true Tryd.f5.params.toList args.toList ds p := hA0
  rw [Tryd.params5] at hA hval _hsz
  obtain ⟨v0, vs0, d0, ds0, p0, q0, hargs, rfl, rfl, h0, r0⟩ := trodAll_cons hA
  obtain ⟨v1, vs1, d1, ds1, p1, q1, rfl, rfl, rfl, h1, r1⟩ := trodAll_cons r0
  obtain ⟨v2, vs2, d2, ds2, p2, q2, rfl, rfl, rfl, h2, r2⟩ := trodAll_cons r1
  obtain ⟨rfl, rfl, rfl⟩ := trodAll_nil r2
  obtain rfl : args = #[v0, v1, v2] := by cases args; simp_all
  obtain ⟨rfl, rfl⟩ := trodVars_none hV
  have k0 := h0
  have lt0 : ∀ x ∈ p0, x.block < W.heap.size := by obtain ⟨m, hm⟩ := k0; exact DataW.trod_lt m _ _ _ hm
  obtain ⟨x0, rfl, hx0⟩ := open_msg (hval 0 37 v0 rfl rfl) h0
  have k1 := h1
  have lt1 : ∀ x ∈ p1, x.block < W.heap.size := by obtain ⟨m, hm⟩ := k1; exact DataW.trod_lt m _ _ _ hm
  obtain ⟨a1, rfl, rfl, rfl, w1⟩ := open_int Tryd.underlying3 (hval 1 3 v1 rfl rfl) h1
  have k2 := h2
  have lt2 : ∀ x ∈ p2, x.block < W.heap.size := by obtain ⟨m, hm⟩ := k2; exact DataW.trod_lt m _ _ _ hm
  obtain ⟨a2, rfl, rfl, rfl, w2⟩ := open_int Tryd.underlying5 (hval 2 5 v2 rfl rfl) h2
  clear hA0
  refine (walk x0 a1 a2 W hx0 w1 w2 _hL).mono fun e W' ⟨he, bel⟩ => ?_
  subst he
  exact ⟨_, rfl, _, _, _, [], _, [], hW', trodAll_mk1 (shut_bool Tryd.underlying4 _), (trodAll_cons_mk (Below.trod laidOut (by kernel_rfl) (of_decide_eq_true (by kernel_rfl)) k0 bel lt0) (trodAll_cons_mk (Below.trod laidOut (by kernel_rfl) (of_decide_eq_true (by kernel_rfl)) k1 bel lt1) (trodAll_cons_mk (Below.trod laidOut (by kernel_rfl) (of_decide_eq_true (by kernel_rfl)) k2 bel lt2) trodAll_mk0))), rfl, bel.frame _, fun h => by cases h⟩

/-- A world for the witness: what the door's own run leaves. -/
theorem laid_met (os : Os) : laidMet Tryd.prog Rows.msgWholeRow.laid (((World.doorLaid Tryd.prog 400 os)).forCall (fun _ _ => 0) ⟨#[], #[.agg #[.int .i64 0, .int .u16 0, .int .u32 0, .int .u64 0, .int .u64 0, .int .u64 0, .int .i64 0, .int .u32 0, .int .u16 0, .int .u32 0, .int .u32 0, .int .u16 0, .int .u32 0, .bool false, .int .i64 0, .int .u16 0, .int .u32 0, .int .u64 0, .int .u64 0, .slice none 0 0, .int .u64 0, .slice none 0 0, .slice none 0 0, .slice none 0 0, .int .u64 0, .slice none 0 0, .slice none 0 0, .slice none 0 0, .slice none 0 0], .int .i64 0, .int .u8 0], []⟩).memory :=
  laidMet_of_run' 8 (by kernel_rfl) (by kernel_rfl)
theorem reads (os : Os) {H : Type} (enc : TypeId × Value → H) : ∃ places, DataW.whole enc Tryd.prog (((World.doorLaid Tryd.prog 400 os)).forCall (fun _ _ => 0) ⟨#[], #[.agg #[.int .i64 0, .int .u16 0, .int .u32 0, .int .u64 0, .int .u64 0, .int .u64 0, .int .i64 0, .int .u32 0, .int .u16 0, .int .u32 0, .int .u32 0, .int .u16 0, .int .u32 0, .bool false, .int .i64 0, .int .u16 0, .int .u32 0, .int .u64 0, .int .u64 0, .slice none 0 0, .int .u64 0, .slice none 0 0, .slice none 0 0, .slice none 0 0, .int .u64 0, .slice none 0 0, .slice none 0 0, .slice none 0 0, .slice none 0 0], .int .i64 0, .int .u8 0], []⟩).memory Tryd.f5.params.toList Rows.msgWholeSpec.vars false (#[.agg #[.int .i64 0, .int .u16 0, .int .u32 0, .int .u64 0, .int .u64 0, .int .u64 0, .int .i64 0, .int .u32 0, .int .u16 0, .int .u32 0, .int .u32 0, .int .u16 0, .int .u32 0, .bool false, .int .i64 0, .int .u16 0, .int .u32 0, .int .u64 0, .int .u64 0, .slice none 0 0, .int .u64 0, .slice none 0 0, .slice none 0 0, .slice none 0 0, .int .u64 0, .slice none 0 0, .slice none 0 0, .slice none 0 0, .slice none 0 0], .int .i64 0, .int .u8 0] : Array Value).toList 8 = some ([.agg [.lit (.int .i64 0), .agg [.lit (.int .u16 0), .lit (.int .u32 0)], .lit (.int .u64 0), .lit (.int .u64 0), .lit (.int .u64 0), .lit (.int .i64 0), .agg [.lit (.int .u32 0), .agg [.lit (.int .u16 0), .lit (.int .u32 0)]], .agg [.lit (.int .u32 0), .agg [.lit (.int .u16 0), .lit (.int .u32 0)]], .lit (.bool false), .agg [.lit (.int .i64 0), .agg [.lit (.int .u16 0), .lit (.int .u32 0)], .lit (.int .u64 0), .lit (.int .u64 0), .nil, .agg [.lit (.int .u64 0), .nil, .nil, .nil]], .agg [.lit (.int .u64 0), .nil, .nil, .nil], .nil], .lit (.int .i64 0), .lit (.int .u8 0)], [], places) :=
  ⟨[], by kernel_rfl⟩
set_option maxRecDepth 100000 in
theorem lifted (os : Os) (started : os.Started) (H : Type) (enc : TypeId × Value → H) (F : Stop.Interp) :
    ReturnsInHanded {} Tryd.checked os 5 .any ((OpenSpec.ofChange Rows.msgWholeSpec).preRow enc Tryd.prog Tryd.f5 Rows.msgWholeRow.domain false Rows.msgWholeRow.laid) (((OpenSpec.ofChange Rows.msgWholeSpec).at F).post enc Tryd.prog Tryd.f5 false true false false) := by
  obtain ⟨places, hx⟩ := reads os enc
  refine returnsInHanded_of_row (C := Tryd.checked) (s := OpenSpec.ofChange Rows.msgWholeSpec) own started (by kernel_rfl) Tryd.func5
    (witness_row_atRef (enc := enc) (C := Tryd.checked) false (World.doorLaid Tryd.prog 400 os) #[.agg #[.int .i64 0, .int .u16 0, .int .u32 0, .int .u64 0, .int .u64 0, .int .u64 0, .int .i64 0, .int .u32 0, .int .u16 0, .int .u32 0, .int .u32 0, .int .u16 0, .int .u32 0, .bool false, .int .i64 0, .int .u16 0, .int .u32 0, .int .u64 0, .int .u64 0, .slice none 0 0, .int .u64 0, .slice none 0 0, .slice none 0 0, .slice none 0 0, .int .u64 0, .slice none 0 0, .slice none 0 0, .slice none 0 0, .slice none 0 0], .int .i64 0, .int .u8 0] rfl (by kernel_rfl) (by kernel_rfl) (by kernel_rfl)
      (OpenSpec.preRow_of_cond 8 hx (by kernel_rfl) (fun k hk => by cases hk) (by kernel_rfl) (laid_met os))) ?_
  intro W base args ds gs before hval hW _ _ hsz hL _ _
  exact contract H enc W base args ds gs before hval hW hsz hL
theorem said : Rows.MsgWholeSaid :=
  OpenClaim.holds_of_cond 5 Tryd.f5 rfl rfl rfl rfl rfl rfl rfl ⟨rfl, rfl, rfl, rfl, rfl⟩ rfl rfl rfl rfl rfl (by kernel_rfl) Tryd.func5 (by kernel_rfl)
    (of_decide_eq_true (by kernel_rfl)) (by unfold Func.isWrapper; first | (rw [if_pos (by decide +kernel)]; kernel_rfl) | (rw [if_neg (by decide +kernel)]; exact ⟨rfl, rfl⟩))
    (fun os started H enc _ F => by rw [OpenClaim.pre_eq_preRow]; exact lifted os started H enc F)
theorem proved : Rows.MsgWholeCardSaid :=
  Claim7.holds_tied_plain_at .later [] _ _ _ _ said (fun _ h => by cases h) (by kernel_rfl) (fun _ h => by cases h) msgWhole_row_tie rfl ⟨rfl, rfl⟩ (by kernel_rfl) rfl
    (fun f fn hf hfn => by
      obtain rfl : f = 5 := Option.some.inj ((show Tryd.prog.funcNamed "choragus/choraguslaw10.MsgWhole" = some 5 by kernel_rfl).symm.trans hf) |>.symm
      obtain rfl : fn = Tryd.f5 := (Option.some.inj (Tryd.func5.symm.trans hfn)).symm
      exact ⟨by kernel_rfl, fun j t ht => by
        rw [Tryd.params5] at ht
        have hm : t ∈ [37, 3, 5] := by simpa using Array.mem_of_getElem? ht
        have hall : ([37, 3, 5].all fun u => !Tryd.prog.wantsStandIn u) = true := by kernel_rfl
        exact (show Tryd.prog.wantsStandIn t = false by simpa using List.all_eq_true.1 hall t hm)⟩)
    (by kernel_rfl)
#print axioms proved
end Go.Proofs.YtjmkecaljkcoiaaDoor.msgWhole
