/-
  The law choraguslaw08.ViewBack answers true, and does not panic, for every argument that its row allows. Conditions: none but the row's own.
-/
import Derived.Test.YthloamhodapmpaaRows
import Derived.WalkKit
import Derived.ProofKit
import Derived.OpenShut
import Derived.ShutString
import Derived.ChangeOld
import Derived.Below
import Derived.Test.YthloamhodapmpaaQOpenF
import Derived.Test.YthloamhodapmpaaQViewS
import Derived.Test.YthloamhodapmpaaQViewE
namespace Go.Proofs.Ythloamhodapmpaa.viewBack
open Go.ChangeShapes Go.WideShapes Go.ChangeAt Go.RowKit
open Go.ChangeMaps (open_string shut_string)
set_option linter.unusedVariables false
set_option linter.unusedSimpArgs false

theorem viewL_len {v : Vi} (hv : MayV v) : (viewL v).length ≤ 100000 := by
  have hn := hv.mem.most
  have hN := Nat.le_trans hv.lvs.few hn
  have h1 := (shortL_len v.id).2
  have h2 := (shortL_len v.mem.length).2
  have h3 := pidsL_len v.mem
  have h4 := (shortL_len v.lvs.length).2
  have h5 := lvsL_len v.mem v.lvs (fun a ha => Nat.le_trans ((hv.lvs.each a ha).2.len) (by omega))
  have h6 := someL_len v.mem v.ldr
  have h7 := Nat.le_trans hv.ldr.len hn
  unfold viewL
  simp only [List.length_append]
  omega
/-- A number of 32 bits, that may be stored anew. -/
def U32 (w : World) (a : Addr) : Prop := (∃ i : Int, w.cell? a = some (.int .u32 i)) ∧ w.frozen? a = false
theorem U32.set {w : World} {g g' : Nat} (h : U32 w ⟨g, 1, none⟩) (h' : U32 w ⟨g', 1, none⟩) (j : Int) : U32 (w.setCell ⟨g', 1, none⟩ (.int .u32 j)) ⟨g, 1, none⟩ := by
  obtain ⟨⟨i, hi⟩, hf⟩ := h
  obtain ⟨⟨i', hi'⟩, hf'⟩ := h'
  refine ⟨?_, by rw [World.frozen?_setCell]; exact hf⟩
  by_cases e : g = g'
  · subst e
    exact ⟨j, World.cell?_setCell_same w _ _ hi⟩
  · exact ⟨i, by rw [World.cell?_setCell_other w _ _ _ (fun e' => e (by injection e' with e1; first | exact e1 | exact e1.symm))]; exact hi⟩
theorem OwnE.u32 {w : World} {base n c g : Nat} {l : List Pr} (h : OwnE 34 prC 2 w base (.slice (some ⟨g, 0, none⟩) n c) n l) (hn : 0 < n) : U32 w ⟨g, 1, none⟩ := by
  have hl := OwnE.len prOk h
  have hc := OwnE.cell_ prOk h (j := 0) (i := 1) (v := .int .u32 (((l[0]'(by omega)).k : Nat) : Int)) (by omega) (by decide) rfl
  exact ⟨⟨_, hc⟩, OwnE.fz_ h 1⟩
/-- What the law holds: the view that came in, and the copy, each in a variable. -/
structure BkS (w W : World) (x y : Vw) (B1 gc : Nat) : Prop where
  v0 : VAt W w.heap.size x
  vc : VAt W gc y
  own : VwOwn W B1 y
  below : Below w.heap.size w W
theorem BkS.later {w W W' : World} {x y : Vw} {B1 gc : Nat} (h : BkS w W x y B1 gc) (hb : Below W.heap.size W W') : BkS w W' x y B1 gc :=
  ⟨h.v0.later hb, h.vc.later hb, h.own.later hb, h.below.trans (hb.mono h.below.size)⟩
/-- .. and what was read, behind which the copy is changed. -/
structure FinS (w W : World) (x y z : Vw) (gc gz B : Nat) : Prop where
  v0 : VAt W w.heap.size x
  vc : VAt W gc y
  vz : VAt W gz z
  own : VwOwn W B z
  below : Below w.heap.size w W
theorem FinS.set {w W : World} {x y z : Vw} {gc gz B g : Nat} (h : FinS w W x y z gc gz B) (u : Value) (h0 : w.heap.size < g) (h1 : gc ≠ g) (h2 : gz ≠ g) (h3 : g < B) : FinS w (W.setCell ⟨g, 1, none⟩ u) x y z gc gz B :=
  ⟨h.v0.far u (Nat.ne_of_lt h0), h.vc.far u h1, h.vz.far u h2, h.own.setFar u h3, h.below.setCell (Nat.le_of_lt h0) u⟩
set_option maxRecDepth 100000 in
set_option maxHeartbeats 4000000 in
theorem walk (x : Vw) (A : Option Addr) (n c : Nat) (zs : List Int) (w : World) (h : VwIn w w.heap.size x) (w0 : IsRow .u8 w A n c zs) (_b : ∀ x, A = some x → 0 < n → x.block < w.heap.size) :
    Calls Try.prog 6 #[.agg #[.int .u64 (x.id : Int), .slice x.A x.m x.c, .slice x.B x.d x.e, .slice x.C x.f x.g], .slice A n c] w fun e w' => e = .returned (.bool true) ∧ Below w.heap.size w w' := by
  obtain ⟨lb, hA, hnc, hc⟩ := isRow_bytes w0
  clear w0 _b
  unfold maxLen at hc
  have hbz : Below w.heap.size w (w.alloc (.cells #[.int .u64 (x.id : Int), .slice x.A x.m x.c, .slice x.B x.d x.e, .slice x.C x.f x.g] 26)) := (Below.refl _ _).alloc (Nat.le_refl _) _
  have v0 := VAt.mk_ w x
  have cg := great8_any x w.heap.size (w.alloc (.cells #[.int .u64 (x.id : Int), .slice x.A x.m x.c, .slice x.B x.d x.e, .slice x.C x.f x.g] 26)) (h.below hbz) (by simp)
  unfold Great8P at cg
  obtain ⟨j0, j1, j2, j3⟩ := v0.cells
  go_enter Try.func6, Try.ntmps6
  go_wp2_with fail
  refine cg.mono ?_
  rintro e w1 ⟨gb, rfl, hsm, hb1⟩
  have hb2 := hbz.trans (hb1.mono hbz.size)
  have v1 := v0.later hb1
  clear hb1 v0 hbz cg j0 j1 j2 j3
  cases gb
  · have hsx := hsm rfl
    clear hsm
    by_cases h2 : 2000 < n
    · have y1 : decide ((2000 : Int) < (n : Int)) = true := decide_eq_true (by omega)
      go_wp2_with fail
      refine (awake8_any _).mono ?_
      rintro e w3 ⟨rfl, hb1⟩
      have hb4 := hb2.trans (hb1.mono hb2.size)
      go_wp2
      go_ret
      exact ⟨rfl, hb4⟩
    · have y1 : decide ((2000 : Int) < (n : Int)) = false := decide_eq_false (by omega)
      have hn2 : n ≤ 2000 := by omega
      have cc := copy_any x w.heap.size w1 (h.below hb2) hsx hb2.size
      unfold CopyP at cc
      obtain ⟨j0, j1, j2, j3⟩ := v1.cells
      clear h2
      go_wp2_with fail
      refine cc.mono ?_
      rintro e w2 ⟨y, rfl, hyv, hym, hyd, hyf, hyq, hyo, hb1⟩
      have hyid : y.id = x.id := congrArg Vi.id hyv
      have hb3 := hb2.trans (hb1.mono hb2.size)
      have bk : BkS w (w2.alloc (.cells #[.int .u64 (y.id : Int), .slice y.A y.m y.c, .slice y.B y.d y.e, .slice y.C y.f y.g] 26)) x y w1.heap.size w2.heap.size := ⟨(v1.later hb1).alloc _, VAt.mk_ w2 y, hyo.later ((Below.refl _ _).alloc (Nat.le_refl _) _), hb3.alloc hb3.size _⟩
      have hw1 : w.heap.size + 1 ≤ w1.heap.size := v1.lt
      have hw2 := hb1.size
      have hw3 : w2.heap.size + 1 ≤ (w2.alloc (.cells #[.int .u64 (y.id : Int), .slice y.A y.m y.c, .slice y.B y.d y.e, .slice y.C y.f y.g] 26)).heap.size := by simp
      have HO := hide hyo
      clear cc j0 j1 j2 j3 v1 hb1 hb2 hb3 hyo y1
      have hyi : y.id < 18446744073709551616 := by rw [hyid]; exact h.hid
      have HV := hide hyv
      have HY := hide (And.intro hym (And.intro hyd hyf))
      clear hyv hym hyd hyf hyq hyid
      obtain ⟨j0, j1, j2, j3⟩ := bk.v0.cells
      obtain ⟨k0, k1, k2, k3⟩ := bk.vc.cells
      go_wp2_with fail
      generalize (w2.alloc (.cells #[.int .u64 (y.id : Int), .slice y.A y.m y.c, .slice y.B y.d y.e, .slice y.C y.f y.g] 26)) = w3 at *
      refine (vsame_any y x w3.heap.size w.heap.size w3 true (bk.own.in_ hyi) (h.below bk.below) (Nat.le_refl _) bk.below.size ⟨fun _ => HV.out, fun _ => rfl⟩).mono ?_
      rintro e w4 ⟨rfl, hb4⟩
      have bk4 := bk.later hb4
      clear j0 j1 j2 j3 k0 k1 k2 k3
      obtain ⟨j0, j1, j2, j3⟩ := bk4.v0.cells
      obtain ⟨k0, k1, k2, k3⟩ := bk4.vc.cells
      go_wp2_with fail
      refine (rvsame_any y x w4.heap.size w.heap.size w4 true (bk4.own.in_ hyi) (h.below bk4.below) (Nat.le_refl _) bk4.below.size ⟨fun _ => HV.out, fun _ => rfl⟩).mono ?_
      rintro e w5 ⟨rfl, hb5⟩
      have bk5 := bk4.later hb5
      have hs35 := Nat.le_trans hb4.size hb5.size
      clear j0 j1 j2 j3 k0 k1 k2 k3 bk bk4 hb4 hb5
      obtain ⟨j0, j1, j2, j3⟩ := bk5.v0.cells
      obtain ⟨tc, htc⟩ := bool_of (MayV x.v)
      have ck := check_any x w.heap.size w5 tc (h.below bk5.below) hsx bk5.below.size htc
      cases tc
      · rw [show ckI false = 1 from rfl] at ck
        clear htc
        go_wp2_with fail
        refine ck.mono ?_
        rintro e w6 ⟨rfl, hb6⟩
        have hb7 := bk5.below.trans (hb6.mono bk5.below.size)
        go_wp2_with fail
        refine (awake8_any _).mono ?_
        rintro e w7 ⟨rfl, hb8⟩
        have hb9 := hb7.trans (hb8.mono hb7.size)
        go_wp2
        go_ret
        exact ⟨rfl, hb9⟩
      · rw [show ckI true = 0 from rfl] at ck
        have hmay := htc.1 rfl
        clear htc
        go_wp2_with fail
        refine ck.mono ?_
        rintro e w6 ⟨rfl, hb6⟩
        have bk6 := bk5.later hb6
        have hs36 := Nat.le_trans hs35 hb6.size
        clear j0 j1 j2 j3 ck bk5 hs35 hb6
        have hW := WrAt.new w6 w6.heap.size (Nat.le_refl _)
        have hbw : Below w6.heap.size w6 (w6.alloc (.cells #[.slice none 0 0] 51)) := (Below.refl _ _).alloc (Nat.le_refl _) _
        have bkw := bk6.later hbw
        have cp := vput_any x w6.heap.size w6.heap.size w.heap.size none [] _ hW hbw.size (by simp) (h.below bkw.below) bk6.below.size hsx hmay
        obtain ⟨j0, j1, j2, j3⟩ := bkw.v0.cells
        go_wp2_with fail
        refine cp.mono ?_
        rintro e w8 ⟨rfl, mg8, h8, ht8, hm8⟩
        rw [List.nil_append] at h8
        have hb68 : Below w6.heap.size w6 w8 := hbw.trans (ht8.below hbw.size (Nat.le_refl _) (fun g hg => by cases hg))
        have bk8 := bk6.later hb68
        have hs38 := Nat.le_trans hs36 hb68.size
        have hvl := viewL_len hmay
        clear j0 j1 j2 j3 cp hW hbw bkw ht8 hm8 bk6 hb68 hs36
        go_wp2_with fail
        refine (wdone_any w6.heap.size w6.heap.size mg8 (viewL x.v) w8 h8 (by omega)).mono ?_
        rintro e w9 ⟨A9, c9, rfl, ho9, hb9⟩
        have bk9 := bk8.later hb9
        have hA9 := hA.below bk9.below
        obtain ⟨L, hL⟩ : ∃ L, L = viewL x.v := ⟨_, rfl⟩
        rw [← hL] at ho9 hvl
        have HL := hide hL
        simp only [← hL]
        clear hL h8
        go_wp2_with (at_builtin; refine wp_bytes_own _ rfl (.tmp 39) (.tmp 40) rfl w8.heap.size L.length _ L rfl ho9 _ A n c lb rfl hA9 (by omega) w8.heap.size w8 hb9 (Nat.le_refl _) hb9.size ?_; intro A10 c10 w10 ho10 hb10 hs10; refine Hid.out ?_)
        refine Lib.hid ?_
        have bk10 := bk8.later hb10
        have hs310 := Nat.le_trans hs38 hb10.size
        clear bk8 bk9 hA9 ho9 hb9 hb10 hs10 hs38
        go_wp2_with fail
        refine (read_any A10 (L.length + n) c10 (L ++ lb) w10.heap.size w10 (OwnB.bs ho10) (Nat.le_refl _) (by omega)).mono ?_
        rintro e w11 ⟨b, rfl, hbb, hr11, hb11⟩
        have bk11 := bk10.later hb11
        rw [HL.out] at hr11
        go_wp2_with fail
        refine (vget_any x.v b lb w11 hr11 hmay).mono ?_
        rintro e w12 ⟨z, rfl, hzv, hzo, hzs, hr12, ht12⟩
        have hzi : z.id < 18446744073709551616 := by rw [show z.id = x.id from congrArg Vi.id hzv]; exact h.hid
        have HZ := hide hzv
        have hw11 := hb11.size
        have hb1012 : Below w10.heap.size w10 w12 := hb11.trans (ht12.below hb11.size hbb (fun g hg => by cases hg))
        have hbz : Below w12.heap.size w12 (w12.alloc (.cells #[.int .u64 (z.id : Int), .slice z.A z.m z.c, .slice z.B z.d z.e, .slice z.C z.f z.g] 26)) := (Below.refl _ _).alloc (Nat.le_refl _) _
        have bk13 := (bk10.later hb1012).later hbz
        have hw1012 := hb1012.size
        have vz := VAt.mk_ w12 z
        have zo := hzo.later hbz
        have r13 := hr12.later hbz
        clear hzv hr12 ht12 hzo hb1012 hbz bk11 hb11 hr11 hbb bk10 ho10
        obtain ⟨j0, j1, j2, j3⟩ := bk13.v0.cells
        obtain ⟨k0, k1, k2, k3⟩ := vz.cells
        go_wp2_with fail
        generalize (w12.alloc (.cells #[.int .u64 (z.id : Int), .slice z.A z.m z.c, .slice z.B z.d z.e, .slice z.C z.f z.g] 26)) = w13 at *
        refine (rvsame_any z x w13.heap.size w.heap.size w13 true (zo.in_ hzi) (h.below bk13.below) (Nat.le_refl _) bk13.below.size ⟨fun _ => HZ.out, fun _ => rfl⟩).mono ?_
        rintro e w14 ⟨rfl, hb14⟩
        have bk14 := bk13.later hb14
        have vz4 := vz.later hb14
        have zo4 := zo.later hb14
        have r14 := r13.later hb14
        have cl := left_any b lb 0 w14 r14
        have ce := err_any b lb 0 w14 r14
        rw [hA.len] at cl
        clear j0 j1 j2 j3 k0 k1 k2 k3 bk13 vz zo r13 r14 hb14
        go_wp2_with fail
        refine cl.mono ?_
        rintro e w15 ⟨rfl, rfl⟩
        clear cl
        go_wp2_with fail
        refine ce.mono ?_
        rintro e w15 ⟨rfl, rfl⟩
        clear ce
        have hl1 := OwnE.len prOk HO.out.ms
        have hl2 := OwnE.len lfOk HO.out.lv
        have hl3 := OwnE.len prOk HO.out.dr
        have e1 : y.l = x.l := congrArg Vi.mem HV.out
        have e2 : y.q.map Lf.l = x.q.map Lf.l := congrArg Vi.lvs HV.out
        have e3 : y.r = x.r := congrArg Vi.ldr HV.out
        have hm0 : 0 < y.m := by rw [← hl1, e1]; exact hmay.mem.one
        have hf0 : 0 < y.f := by rw [← hl3, e3]; exact List.length_pos_iff.2 hmay.one
        have hd0 : 0 < y.q.length := by
          have h1 := hmay.lvs.once (x.l[0]'(by rw [← e1, hl1]; exact hm0)) (List.getElem_mem _)
          have h2 : (y.q.map Lf.l).length = (x.q.map Lf.l).length := by rw [e2]
          rw [List.length_map] at h2
          by_cases h0 : y.q.length = 0
          · rw [h2] at h0
            rw [show x.v.lvs = [] from List.eq_nil_of_length_eq_zero h0] at h1
            simp at h1
          · omega
        have hq0 : 0 < y.q[0].m := by
          have h1 : y.q[0].l ∈ x.q.map Lf.l := by rw [← e2]; exact List.mem_map.2 ⟨_, List.getElem_mem hd0, rfl⟩
          have h2 := (hmay.lvs.each _ h1).1
          rw [← OwnE.len prOk (HO.out.each _ (List.getElem_mem hd0))]
          exact List.length_pos_iff.2 h2
        obtain ⟨g1, hyA, a1, b1⟩ := OwnE.form HO.out.ms hm0
        obtain ⟨g2, hyC, a2, b2⟩ := OwnE.form HO.out.dr hf0
        obtain ⟨gl, hyB, a3, b3⟩ := OwnE.form HO.out.lv (by omega)
        obtain ⟨g4, hyD, a4, b4⟩ := OwnE.form (HO.out.each _ (List.getElem_mem hd0)) hq0
        have t1 := bk14.own.ms
        have t2 := bk14.own.dr
        have t3 := bk14.own.lv
        have t4 := bk14.own.each _ (List.getElem_mem hd0)
        rw [hyA] at t1
        rw [hyC] at t2
        rw [hyB] at t3
        rw [hyD] at t4
        have u1 := OwnE.u32 t1 hm0
        have u2 := OwnE.u32 t2 hf0
        have u4 := OwnE.u32 t4 hq0
        have c3 := OwnE.cell_ lfOk t3 (j := 0) (i := 0) (v := .slice y.q[0].A y.q[0].m y.q[0].c) hd0 (by decide) rfl
        rw [hyD] at c3
        simp only [Nat.zero_mul, Nat.zero_add] at c3
        obtain ⟨qm, hqm⟩ : ∃ m, m = y.q[0].m := ⟨_, rfl⟩
        obtain ⟨qc, hqc⟩ : ∃ m, m = y.q[0].c := ⟨_, rfl⟩
        rw [← hqm] at hq0
        rw [← hqm, ← hqc] at c3
        have F0 : FinS w w14 x y z w2.heap.size w12.heap.size w11.heap.size := ⟨bk14.v0, bk14.vc, vz4, zo4, bk14.below⟩
        have hd1 : 0 < y.d := by omega
        obtain ⟨i1, d1⟩ := u1.1
        have f1 := u1.2
        obtain ⟨j1, hj1⟩ : ∃ j, IntKind.u32.wrap (i1 + 1) = j := ⟨_, rfl⟩
        have F1 := F0.set (g := g1) (.int .u32 j1) (by omega) (by omega) (by omega) (by omega)
        have u2' := u2.set u1 j1
        have u4' := u4.set u1 j1
        have c4 : (w14.setCell ⟨g1, 1, none⟩ (.int .u32 j1)).cell? ⟨gl, 0, none⟩ = some (.slice (some ⟨g4, 0, none⟩) qm qc) := by
          rw [World.cell?_setCell_other _ _ _ _ (by simp)]
          exact c3
        obtain ⟨W1, hW1⟩ : ∃ W, w14.setCell ⟨g1, 1, none⟩ (.int .u32 j1) = W := ⟨_, rfl⟩
        rw [hW1] at F1 u2' u4' c4
        obtain ⟨i2, d2⟩ := u2'.1
        have f2 := u2'.2
        obtain ⟨j2, hj2⟩ : ∃ j, IntKind.u32.wrap (i2 + 1) = j := ⟨_, rfl⟩
        have F2 := F1.set (g := g2) (.int .u32 j2) (by omega) (by omega) (by omega) (by omega)
        have u4'' := u4'.set u2' j2
        have c5 : (W1.setCell ⟨g2, 1, none⟩ (.int .u32 j2)).cell? ⟨gl, 0, none⟩ = some (.slice (some ⟨g4, 0, none⟩) qm qc) := by
          rw [World.cell?_setCell_other _ _ _ _ (by simp)]
          exact c4
        obtain ⟨W2, hW2⟩ : ∃ W, W1.setCell ⟨g2, 1, none⟩ (.int .u32 j2) = W := ⟨_, rfl⟩
        rw [hW2] at F2 u4'' c5
        obtain ⟨i4, d4⟩ := u4''.1
        have f4 := u4''.2
        obtain ⟨j4, hj4⟩ : ∃ j, IntKind.u32.wrap (i4 + 1) = j := ⟨_, rfl⟩
        have F3 := F2.set (g := g4) (.int .u32 j4) (by omega) (by omega) (by omega) (by omega)
        obtain ⟨W3, hW3⟩ : ∃ W, W2.setCell ⟨g4, 1, none⟩ (.int .u32 j4) = W := ⟨_, rfl⟩
        rw [hW3] at F3
        obtain ⟨_, m1, _, _⟩ := F0.vc.cells
        obtain ⟨_, _, _, m3⟩ := F1.vc.cells
        obtain ⟨_, _, m2, _⟩ := F2.vc.cells
        obtain ⟨j0, k1, k2, k3⟩ := F3.v0.cells
        obtain ⟨q0, q1, q2, q3⟩ := F3.vz.cells
        clear c3 c4 hqm hqc hyD t1 t2 t3 t4 u1 u2 u4 u2' u4' u4'' e1 e2 e3 hl1 hl2 hl3 hd0 bk14 vz4 zo4 F0 F1 F2 a1 a2 a3 a4 b1 b2 b3 b4
        go_wp2_with fail
        refine (rvsame_any z x W3.heap.size w.heap.size W3 true (F3.own.in_ hzi) (h.below F3.below) (Nat.le_refl _) F3.below.size ⟨fun _ => HZ.out, fun _ => rfl⟩).mono ?_
        rintro e w15 ⟨rfl, hb15⟩
        have hb16 := F3.below.trans (hb15.mono F3.below.size)
        go_wp2_with fail
        refine (awake8_any _).mono ?_
        rintro e w16 ⟨rfl, hb17⟩
        have hb18 := hb16.trans (hb17.mono hb16.size)
        go_wp2
        go_ret
        exact ⟨rfl, hb18⟩
  · clear hsm
    go_wp2_with fail
    refine (awake8_any _).mono ?_
    rintro e w3 ⟨rfl, hb1⟩
    have hb4 := hb2.trans (hb1.mono hb2.size)
    go_wp2
    go_ret
    exact ⟨rfl, hb4⟩

/-! ### THE ROW's STEP -/
set_option maxRecDepth 100000 in
theorem lifted (os : Os) (started : os.Started) (H : Type) (enc : TypeId × Value → H) :
    ReturnsInHanded {} Try.checked os 6 .any (Rows.viewBackSpec.pre6 enc Try.prog Try.f6 Rows.viewBackRow.domain false) (Rows.viewBackSpec.post enc Try.prog Try.f6 false true false false) := by
  refine returnsInHanded_of_change (C := Try.checked) own started (by kernel_rfl) Try.func6
    (ChangeSpec.witness6 (enc := enc) (C := Try.checked) false ⟨#[], #[.agg #[.int .u64 0, .slice none 0 0, .slice none 0 0, .slice none 0 0], .slice none 0 0], []⟩ 8 (by kernel_rfl) (by kernel_rfl) (by kernel_rfl) (by kernel_rfl)) ?_
  intro W base args ds gs before hval0 hW hcnd _
  have hval : ∀ (j : Nat) t v, Try.f6.params[j]? = some t → args[j]? = some v → Value.okWide Try.prog W .any base t v := hval0
  have hW' := hW
  obtain ⟨p, q, hA0, hV, rfl, hfz, hnd⟩ := hW
  have hA : DataW.TrodAll enc Try.prog W 0 (fun _ => true) true Try.f6.params.toList args.toList ds p := hA0
  rw [Try.params6] at hA hval
  obtain ⟨v0, vs0, d0, ds0, p0, q0, hargs, rfl, rfl, h0, r0⟩ := trodAll_cons hA
  obtain ⟨v1, vs1, d1, ds1, p1, q1, rfl, rfl, rfl, h1, r1⟩ := trodAll_cons r0
  obtain ⟨rfl, rfl, rfl⟩ := trodAll_nil r1
  obtain rfl : args = #[v0, v1] := by cases args; simp_all
  obtain ⟨rfl, rfl⟩ := trodVars_none hV
  have k0 := h0
  have lt0 : ∀ x ∈ p0, x.block < W.heap.size := by obtain ⟨m, hm⟩ := k0; exact DataW.trod_lt m _ _ _ hm
  obtain ⟨x0, rfl, hx0⟩ := open_view (hval 0 26 v0 rfl rfl) h0
  have k1 := h1
  have lt1 : ∀ x ∈ p1, x.block < W.heap.size := by obtain ⟨m, hm⟩ := k1; exact DataW.trod_lt m _ _ _ hm
  obtain ⟨a1, len1, cap1, rfl⟩ := okWide_slice Try.underlying46 (hval 1 46 v1 rfl rfl)
  obtain ⟨z1, w1⟩ : ∃ zs, IsRow .u8 W a1 len1 cap1 zs := by
    obtain ⟨fuel, hf⟩ := h1
    rcases open_ints Try.underlying46 Try.underlying5 (by kernel_rfl) hf with ⟨hcs, _⟩ | ⟨x, l, c, zs, hcs, _, hl, hm, hz, _, hcell, hwz⟩
    · simp [Value.cells] at hcs
      obtain ⟨rfl, rfl, rfl⟩ := hcs
      exact ⟨[], .inl ⟨rfl, rfl, rfl, rfl⟩⟩
    · simp [Value.cells] at hcs
      obtain ⟨rfl, rfl, rfl⟩ := hcs
      exact ⟨zs, .inr ⟨_, rfl, hl, hm, by simpa using hz, hcell, hwz⟩⟩
  have b1 : ∀ x, a1 = some x → 0 < len1 → x.block < W.heap.size := isRow_block w1
  clear hA0 hval0
  refine (walk x0 a1 len1 cap1 z1 W hx0 w1 b1).mono fun e W' ⟨he, bel⟩ => ?_
  subst he
  exact ⟨_, rfl, _, _, _, [], _, [], hW', trodAll_mk1 (shut_bool Try.underlying4 _), (trodAll_cons_mk (Below.trod laidOut (by kernel_rfl) (of_decide_eq_true (by kernel_rfl)) k0 bel lt0) (trodAll_cons_mk (Below.trod laidOut (by kernel_rfl) (of_decide_eq_true (by kernel_rfl)) k1 bel lt1) trodAll_mk0)), rfl, bel.frame _, fun h => by cases h⟩

theorem over : Rows.viewBackRow.holds Try.pinned (OpenSpec.ofChange Rows.viewBackSpec) :=
  OpenClaim.holds_of_wide 6 Try.f6 rfl rfl rfl rfl rfl rfl rfl ⟨rfl, rfl, rfl, rfl, rfl⟩ rfl rfl rfl rfl rfl (by kernel_rfl) Try.func6 (by kernel_rfl)
    (of_decide_eq_true (by kernel_rfl)) (by unfold Func.isWrapper; first | (rw [if_pos (by decide +kernel)]; kernel_rfl) | (rw [if_neg (by decide +kernel)]; exact ⟨rfl, rfl⟩))
    (fun os started H enc _ => lifted os started H enc)

theorem proved : Rows.ViewBackSaid := over
#print axioms proved
end Go.Proofs.Ythloamhodapmpaa.viewBack
