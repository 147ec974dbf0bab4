import Derived.Test.YtjmkecaljkcoiaaDoorQBeat9
import Derived.Test.YtjmkecaljkcoiaaDoorQBeat4
import Derived.Test.YtjmkecaljkcoiaaDoorQRfE
import Derived.Test.YtjmkecaljkcoiaaDoorQRfQ
namespace Go.Proofs.YtjmkecaljkcoiaaDoor
open Go.RowKit Go.Maps
set_option linter.unusedVariables false
set_option linter.unusedSimpArgs false
section
variable {w w' : World} {b : Nat} {x : Bx}
theorem BAt.st1 (h : BAt w b x) (v : Nat) : BAt (w.setCell ⟨b, 1, none⟩ (.int .u64 (v : Int))) b { x with a := v } := bheap_set h 1 _
theorem BAt.st2 (h : BAt w b x) (v : Nat) : BAt (w.setCell ⟨b, 2, none⟩ (.int .u64 (v : Int))) b { x with l := v } := bheap_set h 2 _
theorem BAt.st3 (h : BAt w b x) (v : Nat) : BAt (w.setCell ⟨b, 3, none⟩ (.int .u64 (v : Int))) b { x with s := v } := bheap_set h 3 _
theorem BAt.st4 (h : BAt w b x) (A : Option Addr) (n c : Nat) (q : List Pr) : BAt (w.setCell ⟨b, 4, none⟩ (.slice A n c)) b { x with A := A, n := n, c := c, q := q } := bheap_set h 4 _
end
structure DbR (w : World) (R H : Nat) (s : RS) (x : Bx) (W : World) : Prop where
  rd : RfAt W R s.l s.t
  bt : BAt W H x
  zz : BAt W w.heap.size ⟨0, 0, 0, 0, none, 0, 0, []⟩
  bl : Below w.heap.size w W
  h0 : w.heap.size < R
  h1 : R < H
section
variable {w W W' : World} {R H : Nat} {s s' : RS} {x : Bx}
theorem DbR.turned (h : DbR w R H s x W) (hr : RfAt W' R s'.l s'.t) (ht : Turn W W' R none) : DbR w R H s' x W' :=
  ⟨hr, h.bt.turn ht (by have := h.h1; omega), h.zz.turn ht (by have := h.h0; omega), h.bl.trans (ht.below h.bl.size (Nat.le_of_lt h.h0) (fun g hg => by cases hg)), h.h0, h.h1⟩
theorem DbR.stored (h : DbR w R H s x W) (k : Nat) (u : Value) {y : Bx} (hb : BAt (W.setCell ⟨H, k, none⟩ u) H y) : DbR w R H s y (W.setCell ⟨H, k, none⟩ u) :=
  ⟨h.rd.other (p := ⟨H, k, none⟩) h.h1 u, hb, h.zz.keep (B := H) (Nat.lt_trans h.h0 h.h1) ((Below.refl H W).setCell (p := ⟨H, k, none⟩) (Nat.le_refl _) u), h.bl.setCell (p := ⟨H, k, none⟩) (Nat.le_of_lt (Nat.lt_trans h.h0 h.h1)) u, h.h0, h.h1⟩
end
set_option maxRecDepth 100000 in
set_option maxHeartbeats 1000000 in
theorem rdecbeat_any (A : Option Addr) (n c : Nat) (l : List UInt8) (B : Nat) (w : World) (hA : Bs w B A n l) (hB : B ≤ w.heap.size) (hnc : n ≤ c) (hcm : c ≤ maxLen) :
    Calls Tryd.prog 19 #[.slice A n c] w (DecBP w (decBt l)) := by
  have hbz : Below w.heap.size w (w.alloc (.cells #[.int .u64 0, .int .u64 0, .int .u64 0, .int .u64 0, .slice none 0 0] 52)) := (Below.refl _ _).alloc (Nat.le_refl _) _
  have hs1 : (w.alloc (.cells #[.int .u64 0, .int .u64 0, .int .u64 0, .int .u64 0, .slice none 0 0] 52)).heap.size = w.heap.size + 1 := by simp
  have hlen := hA.len
  subst hlen
  have hb2 : Below w.heap.size w ((w.alloc (.cells #[.int .u64 0, .int .u64 0, .int .u64 0, .int .u64 0, .slice none 0 0] 52)).alloc (.cells #[.slice A l.length c, .int .i64 0] 94)) := hbz.alloc hbz.size _
  have rf2 : RfAt ((w.alloc (.cells #[.int .u64 0, .int .u64 0, .int .u64 0, .int .u64 0, .slice none 0 0] 52)).alloc (.cells #[.slice A l.length c, .int .i64 0] 94)) (w.heap.size + 1) l 0 := ⟨A, c, by rw [← hs1]; exact heap_alloc_new _ _, (hA.below (hb2.mono hB)).more (by omega), hnc, hcm⟩
  have zz2 : BAt ((w.alloc (.cells #[.int .u64 0, .int .u64 0, .int .u64 0, .int .u64 0, .slice none 0 0] 52)).alloc (.cells #[.slice A l.length c, .int .i64 0] 94)) w.heap.size ⟨0, 0, 0, 0, none, 0, 0, []⟩ := (BAt.zero w).alloc _
  obtain ⟨s, hs⟩ : ∃ s, s = (⟨l, 0⟩ : RS) := ⟨_, rfl⟩
  have hd1 : endF (getBt s).2.l (getBt s).2.t ≠ 0 → decBt l = (zeroBt, endF (getBt s).2.l (getBt s).2.t) := by rw [hs]; exact decBt_err
  have hd2 : endF (getBt s).2.l (getBt s).2.t = 0 → MayB (getBt s).1 → decBt l = ((getBt s).1, 0) := by rw [hs]; exact decBt_yes
  have hd3 : endF (getBt s).2.l (getBt s).2.t = 0 → ¬ MayB (getBt s).1 → decBt l = (zeroBt, 5) := by rw [hs]; exact decBt_no
  have HX := hide (And.intro hd1 (And.intro hd2 hd3))
  have c0 := xnum_tot (w.heap.size + 1) 4611686018427387904 (stBt s 0) _ (by rw [hs]; exact rf2) (by decide)
  obtain ⟨r0, hr0⟩ : ∃ r, r = numS 4611686018427387904 (stBt s 0) := ⟨_, rfl⟩
  rw [← hr0] at c0
  have HR0 := hide hr0
  have hs2 : ((w.alloc (.cells #[.int .u64 0, .int .u64 0, .int .u64 0, .int .u64 0, .slice none 0 0] 52)).alloc (.cells #[.slice A l.length c, .int .i64 0] 94)).heap.size = w.heap.size + 2 := by simp
  clear hA hd1 hd2 hd3 hs hr0 rf2 hbz hs1
  go_enter Tryd.func19, Tryd.ntmps19
  generalize hw2 : ((w.alloc (.cells #[.int .u64 0, .int .u64 0, .int .u64 0, .int .u64 0, .slice none 0 0] 52)).alloc (.cells #[.slice A l.length c, .int .i64 0] 94)) = w2 at *
  go_wp2_with fail
  refine c0.mono ?_
  rintro e w3 ⟨rfl, h3, t3⟩
  have hs3 := t3.size
  have d3 : DbR w (w.heap.size + 1) w3.heap.size r0.2 ⟨r0.1, 0, 0, 0, none, 0, 0, []⟩ (w3.alloc (.cells #[.int .u64 (r0.1 : Int), .int .u64 0, .int .u64 0, .int .u64 0, .slice none 0 0] 52)) :=
    ⟨h3.alloc _, heap_alloc_new w3 _, (zz2.turn t3 (by omega)).alloc _, (hb2.trans (t3.below hb2.size (Nat.le_succ _) (fun g hg => by cases hg))).alloc (by omega) _, Nat.lt_succ_self _, by omega⟩
  have hsz : w3.heap.size < (w3.alloc (.cells #[.int .u64 (r0.1 : Int), .int .u64 0, .int .u64 0, .int .u64 0, .slice none 0 0] 52)).heap.size := by simp
  clear c0 hw2 h3 t3 hb2 zz2 hs2
  have c1 := xnum_tot (w.heap.size + 1) 4611686018427387904 r0.2 _ d3.rd (by decide)
  obtain ⟨r1, hr1⟩ : ∃ r, r = numS 4611686018427387904 r0.2 := ⟨_, rfl⟩
  rw [← hr1] at c1
  have HR1 := hide hr1
  clear hr1
  go_wp2_with fail
  generalize hH : w3.heap.size = H at *
  generalize (w3.alloc (.cells #[.int .u64 (r0.1 : Int), .int .u64 0, .int .u64 0, .int .u64 0, .slice none 0 0] 52)) = w3' at *
  refine c1.mono ?_
  rintro e w4 ⟨rfl, h4, t4⟩
  have e4 := d3.turned h4 t4
  have d4 := e4.stored 1 (.int .u64 (r1.1 : Int)) (e4.bt.st1 r1.1)
  have hl4 := e4.bt.lt
  have fz := e4.bt.frozen
  obtain ⟨y0, y1, y2, y3, y4⟩ := e4.bt.cells
  clear c1 h4 t4 d3
  have c2 := xnum_tot (w.heap.size + 1) 4611686018427387904 r1.2 _ d4.rd (by decide)
  obtain ⟨r2, hr2⟩ : ∃ r, r = numS 4611686018427387904 r1.2 := ⟨_, rfl⟩
  rw [← hr2] at c2
  have HR2 := hide hr2
  clear hr2
  go_wp2_with fail
  clear fz y0 y1 y2 y3 y4
  refine c2.mono ?_
  rintro e w5 ⟨rfl, h5, t5⟩
  have e5 := d4.turned h5 t5
  have d5 := e5.stored 2 (.int .u64 (r2.1 : Int)) (e5.bt.st2 r2.1)
  have hl5 := e5.bt.lt
  have fz := e5.bt.frozen
  obtain ⟨y0, y1, y2, y3, y4⟩ := e5.bt.cells
  clear c2 h5 t5 d4
  have c3 := xnum_tot (w.heap.size + 1) 4611686018427387904 r2.2 _ d5.rd (by decide)
  obtain ⟨r3, hr3⟩ : ∃ r, r = numS 4611686018427387904 r2.2 := ⟨_, rfl⟩
  rw [← hr3] at c3
  have HR3 := hide hr3
  clear hr3
  go_wp2_with fail
  clear fz y0 y1 y2 y3 y4
  refine c3.mono ?_
  rintro e w6 ⟨rfl, h6, t6⟩
  have e6 := d5.turned h6 t6
  have d6 := e6.stored 3 (.int .u64 (r3.1 : Int)) (e6.bt.st3 r3.1)
  have hl6 := e6.bt.lt
  have fz := e6.bt.frozen
  obtain ⟨y0, y1, y2, y3, y4⟩ := e6.bt.cells
  clear c3 h6 t6 d5
  have hq24 := pidsS_le 24 r3.2
  have c4 := xpids_tot (w.heap.size + 1) 24 r3.2 _ d6.rd (by decide)
  obtain ⟨r, hr⟩ : ∃ r, r = pidsS 24 r3.2 := ⟨_, rfl⟩
  rw [← hr] at c4 hq24
  have hg : getBt s = (⟨r0.1, r1.1, r2.1, r3.1, r.1⟩, r.2) := by
    rw [hr, HR3.out, HR2.out, HR1.out, HR0.out]; rfl
  have hu : r0.1 < 18446744073709551616 ∧ r1.1 < 18446744073709551616 ∧ r2.1 < 18446744073709551616 ∧ r3.1 < 18446744073709551616 := by
    rw [HR3.out, HR2.out, HR1.out, HR0.out]
    exact ⟨nmBt_lt s 0, nmBt_lt s 1, nmBt_lt s 2, nmBt_lt s 3⟩
  have HA := hide (And.intro hg hu)
  have hz6 := d6.bl.size
  have hl6 := d6.bt.lt
  have hH : w.heap.size + 1 < H := d6.h1
  clear hr hg hu HR0 HR1 HR2 HR3
  go_wp2_with fail
  clear fz y0 y1 y2 y3 y4
  generalize w6.setCell ⟨H, 3, none⟩ (.int .u64 (r3.1 : Int)) = w6' at *
  refine c4.mono ?_
  rintro e w7 ⟨A8, c8, rfl, ho, h7, t7⟩
  have e7 := d6.turned h7 t7
  have d7 := e7.stored 4 (.slice A8 r.1.length c8) (e7.bt.st4 A8 r.1.length c8 r.1)
  have ow7 := (OwnE.setLow ho (p := ⟨H, 4, none⟩) hl6 (.slice A8 r.1.length c8)).mono (base' := w.heap.size + 1) (by omega)
  have hcap := OwnE.cap ow7
  have hl7 := e7.bt.lt
  have fz := e7.bt.frozen
  obtain ⟨y0, y1, y2, y3, y4⟩ := e7.bt.cells
  have ce := xend_any (w.heap.size + 1) r.2.l r.2.t _ d7.rd
  obtain ⟨f, hf⟩ : ∃ f, f = endF r.2.l r.2.t := ⟨_, rfl⟩
  rw [← hf] at ce
  have HF := hide hf
  clear c4 d6 e7 ho h7 t7 hf
  go_wp2_with fail
  clear fz y0 y1 y2 y3 y4
  generalize w7.setCell ⟨H, 4, none⟩ (.slice A8 r.1.length c8) = W at *
  have bt := d7.bt
  have zz := d7.zz
  have bl := d7.bl
  obtain ⟨k0, k1, k2, k3, k4⟩ := bt.cells
  obtain ⟨t, ht⟩ := bool_of (MayB ⟨r0.1, r1.1, r2.1, r3.1, r.1⟩)
  have hx9 : BxIn W W.heap.size ⟨r0.1, r1.1, r2.1, r3.1, A8, r.1.length, c8, r.1⟩ := ⟨HA.out.2.1, HA.out.2.2.1, HA.out.2.2.2.1, HA.out.2.2.2.2, OwnE.es prOk ow7, hcap.1, hcap.2⟩
  have HO := hide ow7
  clear ow7 d7
  refine ce.mono ?_
  rintro e w8 ⟨rfl, rfl⟩
  clear ce
  have hlz := zz.lt
  have hlb := bt.lt
  by_cases h0 : f = 0
  case neg =>
    have x0 : ((f : Int) != 0) = true := by rw [bne_iff_ne]; omega
    have x1 : ((f : Int) == 0) = false := by rw [beq_eq_false_iff_ne]; omega
    have hdm : decBt l = (zeroBt, f) := by rw [HX.out.1 (by rw [HA.out.1, ← HF.out]; exact h0), HA.out.1, ← HF.out]
    have hz := zz.put 0 0 0 0 none 0 0 []
    have hzb := below_beat bl (Nat.le_refl w.heap.size) (.int .u64 (0 : Int)) (.int .u64 (0 : Int)) (.int .u64 (0 : Int)) (.int .u64 (0 : Int)) (.slice none 0 0)
    have HDZ := hide (And.intro hz (And.intro hzb hdm))
    have fz := zz.frozen
    obtain ⟨z0, z1, z2, z3, z4⟩ := zz.cells
    clear hdm h0 hz hzb k0 k1 k2 k3 k4 bt
    go_wp2
    refine bodyPost_ret (v := .tuple #[.agg #[.int .u64 0, .int .u64 0, .int .u64 0, .int .u64 0, .slice none 0 0], .int .i64 (f : Int)]) (res_cell_slot Tryd.results19 _ _ (w.heap.size) _ _ _ _ _ rfl rfl HDZ.out.1 Tryd.underlying52 rfl rfl) rfl ?_
    exact ⟨⟨0, 0, 0, 0, none, 0, 0, []⟩, by rw [HDZ.out.2.2]; rfl, by rw [HDZ.out.2.2]; rfl, BxIn.zero _ _, by decide, by first | exact HDZ.out.2.1 | exact HDZ.out.2.1.drew | exact below_drewN HDZ.out.2.1 _⟩
  have x0 : ((f : Int) != 0) = false := by rw [h0]; rfl
  have x1 : ((f : Int) == 0) = true := by rw [h0]; rfl
  have hf0 := h0
  have HF0 := hide hf0
  clear hf0 h0
  have cm := rcheckbeat_any ⟨r0.1, r1.1, r2.1, r3.1, A8, r.1.length, c8, r.1⟩ W.heap.size W t hx9 (Nat.le_refl _) ht
  have HW := hide (And.intro ht hx9)
  clear ht hx9
  go_wp2_with fail
  clear k0 k1 k2 k3 k4
  cases t
  · have hdm : decBt l = (zeroBt, 5) := HX.out.2.2 (by rw [HA.out.1, ← HF.out]; exact HF0.out) (by rw [HA.out.1]; exact fun e => by have := HW.out.1.2 e; cases this)
    refine cm.mono ?_
    rintro e w9 ⟨rfl, hb9⟩
    have zz6 := zz.later hb9
    have bl6 := bl.trans (hb9.mono bl.size)
    have hz := zz6.put 0 0 0 0 none 0 0 []
    have hzb := below_beat bl6 (Nat.le_refl w.heap.size) (.int .u64 (0 : Int)) (.int .u64 (0 : Int)) (.int .u64 (0 : Int)) (.int .u64 (0 : Int)) (.slice none 0 0)
    have HDZ := hide (And.intro hz (And.intro hzb hdm))
    obtain ⟨y0, y1, y2, y3, y4⟩ := zz6.cells
    have fz6 := zz6.frozen
    have hlz6 := zz6.lt
    clear hdm cm hz hzb bl6 hb9 zz x0 x1
    go_wp2
    refine bodyPost_ret (v := .tuple #[.agg #[.int .u64 0, .int .u64 0, .int .u64 0, .int .u64 0, .slice none 0 0], .int .i64 5]) (res_cell_slot Tryd.results19 _ _ (w.heap.size) _ _ _ _ _ rfl rfl HDZ.out.1 Tryd.underlying52 rfl rfl) rfl ?_
    exact ⟨⟨0, 0, 0, 0, none, 0, 0, []⟩, by rw [HDZ.out.2.2]; rfl, by rw [HDZ.out.2.2]; rfl, BxIn.zero _ _, by decide, by first | exact HDZ.out.2.1 | exact HDZ.out.2.1.drew | exact below_drewN HDZ.out.2.1 _⟩
  · have hdm : decBt l = (⟨r0.1, r1.1, r2.1, r3.1, r.1⟩, 0) := by rw [HX.out.2.1 (by rw [HA.out.1, ← HF.out]; exact HF0.out) (by rw [HA.out.1]; exact HW.out.1.1 rfl), HA.out.1]
    refine cm.mono ?_
    rintro e w9 ⟨rfl, hb9⟩
    have zz6 := zz.later hb9
    have bt6 := bt.later hb9
    have ow6 := OwnE.later HO.out hb9
    have bl6 := bl.trans (hb9.mono bl.size)
    have hz := zz6.put r0.1 r1.1 r2.1 r3.1 A8 r.1.length c8 r.1
    have hzb := below_beat bl6 (Nat.le_refl w.heap.size) (.int .u64 (r0.1 : Int)) (.int .u64 (r1.1 : Int)) (.int .u64 (r2.1 : Int)) (.int .u64 (r3.1 : Int)) (.slice A8 r.1.length c8)
    have oz := OwnE.setLow (OwnE.setLow (OwnE.setLow (OwnE.setLow (OwnE.setLow ow6 (p := ⟨w.heap.size, 0, none⟩) (Nat.lt_succ_self _) (.int .u64 (r0.1 : Int))) (p := ⟨w.heap.size, 1, none⟩) (Nat.lt_succ_self _) (.int .u64 (r1.1 : Int))) (p := ⟨w.heap.size, 2, none⟩) (Nat.lt_succ_self _) (.int .u64 (r2.1 : Int))) (p := ⟨w.heap.size, 3, none⟩) (Nat.lt_succ_self _) (.int .u64 (r3.1 : Int))) (p := ⟨w.heap.size, 4, none⟩) (Nat.lt_succ_self _) (.slice A8 r.1.length c8)
    have HDZ := hide (And.intro hz (And.intro hzb (And.intro oz hdm)))
    obtain ⟨y0, y1, y2, y3, y4⟩ := zz6.cells
    obtain ⟨m0, m1, m2, m3, m4⟩ := bt6.cells
    have fz6 := zz6.frozen
    have hlz6 := zz6.lt
    clear hdm cm hz hzb oz ow6 bl6 hb9 zz bt x1
    go_wp2
    refine bodyPost_ret (v := .tuple #[.agg #[.int .u64 (r0.1 : Int), .int .u64 (r1.1 : Int), .int .u64 (r2.1 : Int), .int .u64 (r3.1 : Int), .slice A8 r.1.length c8], .int .i64 0]) (res_cell_slot Tryd.results19 _ _ (w.heap.size) _ _ _ _ _ rfl rfl HDZ.out.1 Tryd.underlying52 rfl rfl) rfl ?_
    exact ⟨⟨r0.1, r1.1, r2.1, r3.1, A8, r.1.length, c8, r.1⟩, by rw [HDZ.out.2.2.2]; rfl, by rw [HDZ.out.2.2.2]; rfl, ⟨HA.out.2.1, HA.out.2.2.1, HA.out.2.2.2.1, HA.out.2.2.2.2, OwnE.es prOk HDZ.out.2.2.1, hcap.1, hcap.2⟩, hq24, by first | exact HDZ.out.2.1 | exact HDZ.out.2.1.drew | exact below_drewN HDZ.out.2.1 _⟩
end Go.Proofs.YtjmkecaljkcoiaaDoor
