import Derived.Test.YtjmkecaljkcoiaaDoorCards
import Derived.Test.YtjmkecaljkcoiaaDoorTie
import Derived.WalkKit
import Derived.ProofKit
import Derived.OpenShut
import Derived.ShutString
import Derived.ChangeOld
import Derived.Below
import Derived.Deep.DeepHandedRow
import Derived.Deep.DeepWitnessRowRef
import Derived.Lib.LaidTab
import Derived.LaidMore
import Derived.Test.YtjmkecaljkcoiaaDoorQOpenF
import Derived.Test.YtjmkecaljkcoiaaDoorQKey3
import Derived.Test.YtjmkecaljkcoiaaDoorQBeat1
import Derived.Test.YtjmkecaljkcoiaaDoorQBeat10
import Derived.Test.YtjmkecaljkcoiaaDoorQMsg6
import Derived.Test.YtjmkecaljkcoiaaDoorQBeat6
namespace Go.Proofs.YtjmkecaljkcoiaaDoor.msgBeats
open Go.ChangeShapes Go.WideShapes Go.ChangeAt Go.RowKit
open Go.ChangeMaps (open_string shut_string)
set_option linter.unusedVariables false
set_option linter.unusedSimpArgs false
theorem kinds_laid {W : World} (h : laidMetH Tryd.prog Rows.msgBeatsRow.laid W) : Kinds W := by
  have h' : laidMetH Tryd.prog [("choragus/msg.kinds", Rows.laid_choragus_msg_kinds)] W := h
  rw [MakeChecks.laidMetH_plain _ _ _ (by kernel_rfl)] at h'
  exact kinds_of h'
set_option maxRecDepth 100000 in
set_option maxHeartbeats 2000000 in
theorem walk (x : Bx) (A : Option Addr) (n c : Nat) (zs : List Int) (w : World) (h : BxIn w w.heap.size x) (w0 : IsRow .u8 w A n c zs) (_b : ∀ x, A = some x → 0 < n → x.block < w.heap.size) (hL : laidMetH Tryd.prog Rows.msgBeatsRow.laid w) :
    Calls Tryd.prog 6 #[.agg #[.int .u64 (x.v : Int), .int .u64 (x.a : Int), .int .u64 (x.l : Int), .int .u64 (x.s : Int), .slice x.A x.n x.c], .slice A n c] w fun e w' => e = .returned (.bool true) ∧ Below w.heap.size w w' := by
  have hK := kinds_laid hL
  clear hL
  obtain ⟨l, hA, hnc, hcm⟩ := isRow_bytes w0
  clear w0 _b
  have hbz : Below w.heap.size w (w.alloc (.cells #[.int .u64 (x.v : Int), .int .u64 (x.a : Int), .int .u64 (x.l : Int), .int .u64 (x.s : Int), .slice x.A x.n x.c] 52)) := (Below.refl _ _).alloc (Nat.le_refl _) _
  have v0 := BAt.mk_ w x
  have AW := fun W (hb : Below w.heap.size w W) => (awake10_any W (hK.later hb)).mono (fun e w' (hh : e = .returned (.bool true) ∧ Below W.heap.size W w') => (⟨hh.1, hb.trans (hh.2.mono hb.size)⟩ : e = .returned (.bool true) ∧ Below w.heap.size w w'))
  have HAW := hide AW
  have ZIN := fun W (hb : Below w.heap.size w W) => h.below hb
  have AIN := fun W (hb : Below w.heap.size w W) => hA.below hb
  have HZ := hide (And.intro ZIN AIN)
  clear hK AW
  generalize hw1 : w.alloc (.cells #[.int .u64 (x.v : Int), .int .u64 (x.a : Int), .int .u64 (x.l : Int), .int .u64 (x.s : Int), .slice x.A x.n x.c] 52) = w1 at *
  obtain ⟨k0, k1, k2, k3, k4⟩ := v0.cells
  go_enter Tryd.func6, Tryd.ntmps6
  by_cases h60 : 60 < x.n
  · have t1 : ((x.n : Int) > 60) = True := by simp; omega
    have aw := HAW.out w1 hbz
    go_wp2_with fail
    refine aw.mono ?_
    rintro e w3 ⟨rfl, hb3⟩
    go_wp2
    go_ret
    exact ⟨rfl, hb3⟩
  have t1 : ((x.n : Int) > 60) = False := by simp; omega
  by_cases h20 : 2000 < n
  · have t2 : ((n : Int) > 2000) = True := by simp; omega
    have aw := HAW.out w1 hbz
    go_wp2_with fail
    refine aw.mono ?_
    rintro e w3 ⟨rfl, hb3⟩
    go_wp2
    go_ret
    exact ⟨rfl, hb3⟩
  have t2 : ((n : Int) > 2000) = False := by simp; omega
  have cd := decbeat_any A n c l w.heap.size w1 (HZ.out.2 w1 hbz) hbz.size (by omega)
  unfold DecBP at cd
  clear h hA ZIN AIN
  go_wp2_with fail
  refine cd.mono ?_
  rintro e w2 ⟨y, rfl, hy, hyin, hy24, hb⟩
  have hb2 := hbz.trans (hb.mono hbz.size)
  have v2 := v0.later hb
  have hlv2 := v2.lt
  have y2 := BAt.mk_ w2 y
  have vz2 := v2.alloc (.cells #[.int .u64 (y.v : Int), .int .u64 (y.a : Int), .int .u64 (y.l : Int), .int .u64 (y.s : Int), .slice y.A y.n y.c] 52)
  have hb3 := hb2.alloc hb2.size (.cells #[.int .u64 (y.v : Int), .int .u64 (y.a : Int), .int .u64 (y.l : Int), .int .u64 (y.s : Int), .slice y.A y.n y.c] 52)
  have yin2 := hyin.below ((Below.refl w2.heap.size w2).alloc (Nat.le_refl _) (.cells #[.int .u64 (y.v : Int), .int .u64 (y.a : Int), .int .u64 (y.l : Int), .int .u64 (y.s : Int), .slice y.A y.n y.c] 52))
  have cr := rdecbeat_any A n c l w.heap.size (w2.alloc (.cells #[.int .u64 (y.v : Int), .int .u64 (y.a : Int), .int .u64 (y.l : Int), .int .u64 (y.s : Int), .slice y.A y.n y.c] 52)) (HZ.out.2 _ hb3) hb3.size hnc hcm
  unfold DecBP at cr
  have HY := hide hy
  have hs2 : w2.heap.size < (w2.alloc (.cells #[.int .u64 (y.v : Int), .int .u64 (y.a : Int), .int .u64 (y.l : Int), .int .u64 (y.s : Int), .slice y.A y.n y.c] 52)).heap.size := by simp
  clear cd v0 hb hbz hy hyin hw1 k0 k1 k2 k3 k4 t1 t2 v2
  go_wp2_with fail
  generalize w2.alloc (.cells #[.int .u64 (y.v : Int), .int .u64 (y.a : Int), .int .u64 (y.l : Int), .int .u64 (y.s : Int), .slice y.A y.n y.c] 52) = w3 at *
  refine cr.mono ?_
  rintro e w4 ⟨u, rfl, hu, huin, hu24, hb⟩
  have hb4 := hb3.trans (hb.mono hb3.size)
  have v4 := (vz2.later hb).alloc (.cells #[.int .u64 (u.v : Int), .int .u64 (u.a : Int), .int .u64 (u.l : Int), .int .u64 (u.s : Int), .slice u.A u.n u.c] 52)
  have y4 := (y2.later hb).alloc (.cells #[.int .u64 (u.v : Int), .int .u64 (u.a : Int), .int .u64 (u.l : Int), .int .u64 (u.s : Int), .slice u.A u.n u.c] 52)
  have u4 := BAt.mk_ w4 u
  have yin4 := (yin2.below (hb.mono (Nat.le_of_lt hs2))).below (((Below.refl w4.heap.size w4).alloc (Nat.le_refl _) (.cells #[.int .u64 (u.v : Int), .int .u64 (u.a : Int), .int .u64 (u.l : Int), .int .u64 (u.s : Int), .slice u.A u.n u.c] 52)).mono (Nat.le_trans (Nat.le_of_lt hs2) hb.size))
  have uin4 := huin.below ((Below.refl w4.heap.size w4).alloc (Nat.le_refl _) (.cells #[.int .u64 (u.v : Int), .int .u64 (u.a : Int), .int .u64 (u.l : Int), .int .u64 (u.s : Int), .slice u.A u.n u.c] 52))
  have hb5 := hb4.alloc hb4.size (.cells #[.int .u64 (u.v : Int), .int .u64 (u.a : Int), .int .u64 (u.l : Int), .int .u64 (u.s : Int), .slice u.A u.n u.c] 52)
  have cs := rbsame_any y u w2.heap.size w4.heap.size (w4.alloc (.cells #[.int .u64 (u.v : Int), .int .u64 (u.a : Int), .int .u64 (u.l : Int), .int .u64 (u.s : Int), .slice u.A u.n u.c] 52)) true yin4 uin4 (Nat.le_trans (Nat.le_of_lt hs2) (Nat.le_trans hb.size (by simp))) (by simp) ⟨fun _ => by rw [HY.out, hu], fun _ => rfl⟩
  have hlv := (vz2.later hb).lt
  have hly := (y2.later hb).lt
  obtain ⟨j0, j1, j2, j3, j4⟩ := (y2.later hb).cells
  clear cr vz2 y2 hu huin hb hb3 hb4
  generalize (decBt l).2 = q at *
  have xq : ((q : Int) != (q : Int)) = false := by simp
  go_wp2_with fail
  clear j0 j1 j2 j3 j4
  generalize w4.alloc (.cells #[.int .u64 (u.v : Int), .int .u64 (u.a : Int), .int .u64 (u.l : Int), .int .u64 (u.s : Int), .slice u.A u.n u.c] 52) = w5 at *
  refine cs.mono ?_
  rintro e w6 ⟨rfl, hb⟩
  have hb6 := hb5.trans (hb.mono hb5.size)
  have v6 := v4.later hb
  obtain ⟨k0, k1, k2, k3, k4⟩ := v6.cells
  have hl6 := v6.lt
  clear cs v4 y4 u4 hb hb5 yin4 uin4
  by_cases hm : MayB x.m
  · have ce := encbeat_yes x w.heap.size w6 (HZ.out.1 w6 hb6) hb6.size hm
    obtain ⟨L, hLL⟩ : ∃ L, L = formB x.m := ⟨_, rfl⟩
    have hlen : L.length ≤ 100000 := by
      rw [hLL]
      unfold formB
      have q0 := (shortL_len x.m.v).2
      have q1 := (shortL_len x.m.a).2
      have q2 := (shortL_len x.m.l).2
      have q3 := (shortL_len x.m.s).2
      have q4 := (shortL_len x.m.q.length).2
      have q5 := pidsL_len x.m.q
      have q6 := hm.n
      simp only [List.length_append]
      omega
    rw [← hLL] at ce
    have HM := hide (And.intro hm (And.intro hLL (show decBt L = (x.m, 0) by rw [hLL]; exact decBt_front hm)))
    clear hm hLL
    go_wp2_with fail
    refine ce.mono ?_
    rintro e w7 ⟨A3, c3, rfl, ho3, hb⟩
    have hb7 := hb6.trans (hb.mono hb6.size)
    have v7 := v6.later hb
    have cc := rcheckbeat_any x w.heap.size w7 true (HZ.out.1 w7 hb7) hb7.size ⟨fun _ => HM.out.1, fun _ => rfl⟩
    clear ce v6 hb hb6 k0 k1 k2 k3 k4 hl6
    obtain ⟨k0, k1, k2, k3, k4⟩ := v7.cells
    go_wp2_with fail
    refine cc.mono ?_
    rintro e w8 ⟨rfl, hb⟩
    have hb8 := hb7.trans (hb.mono hb7.size)
    have v8 := v7.later hb
    have ho8 := ho3.later hb
    have cd : Calls Tryd.prog 18 #[.slice A3 L.length c3] w8 (DecBP w8 (x.m, 0)) := by
      have := decbeat_any A3 L.length c3 L w8.heap.size w8 ho8.bs (Nat.le_refl _) (by omega)
      rwa [HM.out.2.2] at this
    unfold DecBP at cd
    clear cc v7 hb hb7 ho3 k0 k1 k2 k3 k4
    obtain ⟨k0, k1, k2, k3, k4⟩ := v8.cells
    go_wp2_with fail
    refine cd.mono ?_
    rintro e w9 ⟨z, rfl, hz, hzin, hz24, hb⟩
    have hb9 := hb8.trans (hb.mono hb8.size)
    have v9 := v8.later hb
    have hl9 := v9.lt
    have z9 := BAt.mk_ w9 z
    have v10 := v9.alloc (.cells #[.int .u64 (z.v : Int), .int .u64 (z.a : Int), .int .u64 (z.l : Int), .int .u64 (z.s : Int), .slice z.A z.n z.c] 52)
    have hb10 := hb9.alloc hb9.size (.cells #[.int .u64 (z.v : Int), .int .u64 (z.a : Int), .int .u64 (z.l : Int), .int .u64 (z.s : Int), .slice z.A z.n z.c] 52)
    have zin10 := hzin.below ((Below.refl w9.heap.size w9).alloc (Nat.le_refl _) (.cells #[.int .u64 (z.v : Int), .int .u64 (z.a : Int), .int .u64 (z.l : Int), .int .u64 (z.s : Int), .slice z.A z.n z.c] 52))
    have ho10 := (ho8.later hb).later ((Below.refl w9.heap.size w9).alloc (Nat.le_refl _) (.cells #[.int .u64 (z.v : Int), .int .u64 (z.a : Int), .int .u64 (z.l : Int), .int .u64 (z.s : Int), .slice z.A z.n z.c] 52))
    have hlz := z9.lt
    have hs9 : w9.heap.size ≤ (w9.alloc (.cells #[.int .u64 (z.v : Int), .int .u64 (z.a : Int), .int .u64 (z.l : Int), .int .u64 (z.s : Int), .slice z.A z.n z.c] 52)).heap.size := by simp
    have HZZ := hide hz
    clear cd v8 hb hb8 ho8 k0 k1 k2 k3 k4 hz hzin hb9
    obtain ⟨k0, k1, k2, k3, k4⟩ := v9.cells
    go_wp2_with fail
    clear k0 k1 k2 k3 k4
    generalize w9.alloc (.cells #[.int .u64 (z.v : Int), .int .u64 (z.a : Int), .int .u64 (z.l : Int), .int .u64 (z.s : Int), .slice z.A z.n z.c] 52) = w10 at *
    have cf := rbeatform_any x w.heap.size w10 (HZ.out.1 w10 hb10) hb10.size (by omega)
    rw [← HM.out.2.1] at cf
    refine cf.mono ?_
    rintro e w11 ⟨A5, c5, rfl, ho5, hb⟩
    have hb11 := hb10.trans (hb.mono hb10.size)
    have v11 := v10.later hb
    have z11 := z9.later hb
    have zin11 := zin10.below (hb.mono hs9)
    have ho11 := ho10.later hb
    have hs11 := Nat.le_trans hs9 hb.size
    have cs := same_eq A3 A5 L.length L.length c3 c5 L L _ _ w11 ho11.bs ho5.bs (by unfold maxLen; omega) rfl
    clear cf v10 z9 hb hb10 zin10 ho10 hs9
    go_wp2_with fail
    refine cs.mono ?_
    rintro e w12 ⟨rfl, hd⟩
    have hb12 := hb11.trans ((drawn_below hd).mono hb11.size)
    have v12 := v11.later (drawn_below hd)
    have z12 := z11.later (drawn_below hd)
    have zin12 := zin11.below (drawn_below hd)
    have hs12 : w9.heap.size ≤ w12.heap.size := by rw [drawn_size hd]; exact hs11
    have cb := rbsame_any z x w9.heap.size w.heap.size w12 true zin12 (HZ.out.1 w12 hb12) hs12 hb12.size ⟨fun _ => by rw [HZZ.out], fun _ => rfl⟩
    clear cs hd v11 z11 zin11 ho5 ho11 hb11
    obtain ⟨k0, k1, k2, k3, k4⟩ := v12.cells
    obtain ⟨j0, j1, j2, j3, j4⟩ := z12.cells
    go_wp2_with fail
    refine cb.mono ?_
    rintro e w13 ⟨rfl, hb⟩
    have hb13 := hb12.trans (hb.mono hb12.size)
    have aw := HAW.out w13 hb13
    clear cb v12 z12 zin12 hb hb12 k0 k1 k2 k3 k4 j0 j1 j2 j3 j4
    go_wp2_with fail
    refine aw.mono ?_
    rintro e w14 ⟨rfl, hb14⟩
    go_wp2
    go_ret
    exact ⟨rfl, hb14⟩
  · have ce := encbeat_no x w.heap.size w6 (HZ.out.1 w6 hb6) hb6.size hm
    have HM := hide hm
    clear hm
    go_wp2_with fail
    refine ce.mono ?_
    rintro e w7 ⟨rfl, hb⟩
    have hb7 := hb6.trans (hb.mono hb6.size)
    have v7 := v6.later hb
    have cc := rcheckbeat_any x w.heap.size w7 false (HZ.out.1 w7 hb7) hb7.size ⟨fun e => (by cases e), fun e => absurd e HM.out⟩
    clear ce v6 hb hb6 k0 k1 k2 k3 k4 hl6
    obtain ⟨k0, k1, k2, k3, k4⟩ := v7.cells
    go_wp2_with fail
    refine cc.mono ?_
    rintro e w8 ⟨rfl, hb⟩
    have hb8 := hb7.trans (hb.mono hb7.size)
    have aw := HAW.out w8 hb8
    clear cc v7 hb hb7 k0 k1 k2 k3 k4
    go_wp2_with fail
    refine aw.mono ?_
    rintro e w9 ⟨rfl, hb9⟩
    go_wp2
    go_ret
    exact ⟨rfl, hb9⟩
set_option maxRecDepth 100000 in
theorem contract (H : Type) (enc : TypeId × Value → H) (W : World) (base : Nat) (args : Array Value) (ds gs : List (DataW H)) (before : List MemPlace)
    (hval : ∀ (j : Nat) t v, Tryd.f6.params[j]? = some t → args[j]? = some v → Value.okWide Tryd.prog W .any base t v)
    (hW : DataW.Whole enc Tryd.prog Tryd.f6.params.toList Rows.msgBeatsSpec.vars false W args.toList ds gs before)
    (_hsz : (DataW.weightsEach Tryd.prog (Tryd.f6.params.toList ++ (OpenSpec.ofChange Rows.msgBeatsSpec).bare.plain.varTypes Tryd.prog) (ds ++ gs)).all (· ≤ reachBytes) = true)
    (_hL : laidMetH Tryd.prog Rows.msgBeatsRow.laid W) :
    Calls Tryd.prog 6 args W fun e W' => ∃ v, e = .returned v ∧ Rows.msgBeatsSpec.post enc Tryd.prog Tryd.f6 false true false false W args v W' := by
  have hW' := hW
  obtain ⟨p, q, hA0, hV, rfl, hfz, hnd⟩ := hW
  have hA : DataW.TrodAll enc Tryd.prog W 0 (fun _ => true) true Tryd.f6.params.toList args.toList ds p := hA0
  rw [Tryd.params6] at hA hval _hsz
  obtain ⟨v0, vs0, d0, ds0, p0, q0, hargs, rfl, rfl, h0, r0⟩ := trodAll_cons hA
  obtain ⟨v1, vs1, d1, ds1, p1, q1, rfl, rfl, rfl, h1, r1⟩ := trodAll_cons r0
  obtain ⟨rfl, rfl, rfl⟩ := trodAll_nil r1
  obtain rfl : args = #[v0, v1] := by cases args; simp_all
  obtain ⟨rfl, rfl⟩ := trodVars_none hV
  have k0 := h0
  have lt0 : ∀ x ∈ p0, x.block < W.heap.size := by obtain ⟨m, hm⟩ := k0; exact DataW.trod_lt m _ _ _ hm
  obtain ⟨x0, rfl, hx0⟩ := open_beat (hval 0 52 v0 rfl rfl) h0
  have k1 := h1
  have lt1 : ∀ x ∈ p1, x.block < W.heap.size := by obtain ⟨m, hm⟩ := k1; exact DataW.trod_lt m _ _ _ hm
  obtain ⟨a1, len1, cap1, rfl⟩ := okWide_slice Tryd.underlying29 (hval 1 29 v1 rfl rfl)
  obtain ⟨z1, w1⟩ : ∃ zs, IsRow .u8 W a1 len1 cap1 zs := by
    obtain ⟨fuel, hf⟩ := h1
    rcases open_ints Tryd.underlying29 Tryd.underlying5 (by kernel_rfl) hf with ⟨hcs, _⟩ | ⟨x, l, c, zs, hcs, _, hl, hm, hz, _, hcell, hwz⟩
    · simp [Value.cells] at hcs
      obtain ⟨rfl, rfl, rfl⟩ := hcs
      exact ⟨[], .inl ⟨rfl, rfl, rfl, rfl⟩⟩
    · simp [Value.cells] at hcs
      obtain ⟨rfl, rfl, rfl⟩ := hcs
      exact ⟨zs, .inr ⟨_, rfl, hl, hm, by simpa using hz, hcell, hwz⟩⟩
  have b1 : ∀ x, a1 = some x → 0 < len1 → x.block < W.heap.size := isRow_block w1
  clear hA0
  refine (walk x0 a1 len1 cap1 z1 W hx0 w1 b1 _hL).mono fun e W' ⟨he, bel⟩ => ?_
  subst he
  exact ⟨_, rfl, _, _, _, [], _, [], hW', trodAll_mk1 (shut_bool Tryd.underlying4 _), (trodAll_cons_mk (Below.trod laidOut (by kernel_rfl) (of_decide_eq_true (by kernel_rfl)) k0 bel lt0) (trodAll_cons_mk (Below.trod laidOut (by kernel_rfl) (of_decide_eq_true (by kernel_rfl)) k1 bel lt1) trodAll_mk0)), rfl, bel.frame _, fun h => by cases h⟩
theorem laid_met (os : Os) : laidMet Tryd.prog Rows.msgBeatsRow.laid (((World.doorLaid Tryd.prog 400 os)).forCall (fun _ _ => 0) ⟨#[], #[.agg #[.int .u64 0, .int .u64 0, .int .u64 0, .int .u64 0, .slice none 0 0], .slice none 0 0], []⟩).memory :=
  laidMet_of_run' 8 (by kernel_rfl) (by kernel_rfl)
theorem reads (os : Os) {H : Type} (enc : TypeId × Value → H) : ∃ places, DataW.whole enc Tryd.prog (((World.doorLaid Tryd.prog 400 os)).forCall (fun _ _ => 0) ⟨#[], #[.agg #[.int .u64 0, .int .u64 0, .int .u64 0, .int .u64 0, .slice none 0 0], .slice none 0 0], []⟩).memory Tryd.f6.params.toList Rows.msgBeatsSpec.vars false (#[.agg #[.int .u64 0, .int .u64 0, .int .u64 0, .int .u64 0, .slice none 0 0], .slice none 0 0] : Array Value).toList 8 = some ([.agg [.lit (.int .u64 0), .lit (.int .u64 0), .lit (.int .u64 0), .lit (.int .u64 0), .nil], .nil], [], places) :=
  ⟨[], by kernel_rfl⟩
set_option maxRecDepth 100000 in
theorem lifted (os : Os) (started : os.Started) (H : Type) (enc : TypeId × Value → H) (F : Stop.Interp) :
    ReturnsInHanded {} Tryd.checked os 6 .any ((OpenSpec.ofChange Rows.msgBeatsSpec).preRow enc Tryd.prog Tryd.f6 Rows.msgBeatsRow.domain false Rows.msgBeatsRow.laid) (((OpenSpec.ofChange Rows.msgBeatsSpec).at F).post enc Tryd.prog Tryd.f6 false true false false) := by
  obtain ⟨places, hx⟩ := reads os enc
  refine returnsInHanded_of_row (C := Tryd.checked) (s := OpenSpec.ofChange Rows.msgBeatsSpec) own started (by kernel_rfl) Tryd.func6
    (witness_row_atRef (enc := enc) (C := Tryd.checked) false (World.doorLaid Tryd.prog 400 os) #[.agg #[.int .u64 0, .int .u64 0, .int .u64 0, .int .u64 0, .slice none 0 0], .slice none 0 0] rfl (by kernel_rfl) (by kernel_rfl) (by kernel_rfl)
      (OpenSpec.preRow_of_cond 8 hx (by kernel_rfl) (fun k hk => by cases hk) (by kernel_rfl) (laid_met os))) ?_
  intro W base args ds gs before hval hW _ _ hsz hL _ _
  exact contract H enc W base args ds gs before hval hW hsz hL
theorem said : Rows.MsgBeatsSaid :=
  OpenClaim.holds_of_cond 6 Tryd.f6 rfl rfl rfl rfl rfl rfl rfl ⟨rfl, rfl, rfl, rfl, rfl⟩ rfl rfl rfl rfl rfl (by kernel_rfl) Tryd.func6 (by kernel_rfl)
    (of_decide_eq_true (by kernel_rfl)) (by unfold Func.isWrapper; first | (rw [if_pos (by decide +kernel)]; kernel_rfl) | (rw [if_neg (by decide +kernel)]; exact ⟨rfl, rfl⟩))
    (fun os started H enc _ F => by rw [OpenClaim.pre_eq_preRow]; exact lifted os started H enc F)
theorem proved : Rows.MsgBeatsCardSaid :=
  Claim7.holds_tied_plain_at .later [] _ _ _ _ said (fun _ h => by cases h) (by kernel_rfl) (fun _ h => by cases h) msgBeats_row_tie rfl ⟨rfl, rfl⟩ (by kernel_rfl) rfl
    (fun f fn hf hfn => by
      obtain rfl : f = 6 := Option.some.inj ((show Tryd.prog.funcNamed "choragus/choraguslaw10.MsgBeats" = some 6 by kernel_rfl).symm.trans hf) |>.symm
      obtain rfl : fn = Tryd.f6 := (Option.some.inj (Tryd.func6.symm.trans hfn)).symm
      exact ⟨by kernel_rfl, fun j t ht => by
        rw [Tryd.params6] at ht
        have hm : t ∈ [52, 29] := by simpa using Array.mem_of_getElem? ht
        have hall : ([52, 29].all fun u => !Tryd.prog.wantsStandIn u) = true := by kernel_rfl
        exact (show Tryd.prog.wantsStandIn t = false by simpa using List.all_eq_true.1 hall t hm)⟩)
    (by kernel_rfl)
#print axioms proved
end Go.Proofs.YtjmkecaljkcoiaaDoor.msgBeats
