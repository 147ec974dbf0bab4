import Derived.Test.YtjmkecaljkcoiaaDoorQViewP
namespace Go.Proofs.YtjmkecaljkcoiaaDoor
open Go.RowKit Go.Maps
set_option linter.unusedVariables false
set_option linter.unusedSimpArgs false
theorem viewL_len9 {v : Vi} (hv : MayV v) : (viewL v).length ≤ 100000 := by
  have hn := hv.mem.most
  have hN := Nat.le_trans hv.lvs.few9 hn
  have h1 := (shortL_len v.id).2
  have h2 := (shortL_len v.mem.length).2
  have h3 := pidsL_len v.mem
  have h4 := (shortL_len v.lvs.length).2
  have h5 := lvsL_len v.mem v.lvs (fun a ha => Nat.le_trans ((hv.lvs.each a ha).2.len) (by omega))
  have h6 := someL_len v.mem v.ldr
  have h7 := Nat.le_trans hv.ldr.len hn
  unfold viewL
  simp only [List.length_append]
  omega
theorem formC_len {c : Cm} (h : MayC c) : (formC c).length ≤ 100100 := by
  have h0 := (shortL_len 1).2
  have h1 := (shortL_len 2).2
  have h9 := (shortL_len 3).2
  have hs := h.short
  unfold formC tailC
  rcases h.but with ⟨h0, _⟩ | ⟨h0, _⟩ | ⟨h0, hv, _⟩
  · rw [h0]; simp; omega
  · rw [h0]
    have h2 := pidL_len c.p.i c.p.k
    have h3 := (shortL_len c.num).2
    have h4 := (shortL_len c.vn).2
    have h5 := (shortL_len c.d.length).2
    simp only [if_true, List.length_append]
    rw [show Int.toNat 2 = 2 from rfl]
    omega
  · have h2 := viewL_len9 hv
    rw [h0]
    simp
    omega
set_option maxRecDepth 100000 in
theorem wbytes_far (base b B : Nat) (mg : Option Nat) (L : List UInt8) (A : Option Addr) (n c : Nat) (l : List UInt8) (w : World) (h : WrAt w base b mg L) (hbase : base ≤ w.heap.size) (hn : L.length ≤ 9000000) (hA : ∀ W, Turn w W b mg → Bs W B A n l) (hm : n ≤ 9000000) :
    Calls Tryd.prog 71 #[.pointer (some ⟨b, 0, none⟩), .slice A n c] w (WroteP w base b mg (L ++ (shortL n ++ l))) := by
  have wr : IntKind.u64.wrap (n : Int) = (n : Int) := by rw [IntKind.wrap_u64]; omega
  go_enter Tryd.func71, Tryd.ntmps71
  go_wp2_with fail
  refine (wnum_any base b mg L n w h hbase (by omega) (by omega)).mono ?_
  rintro e w2 ⟨rfl, mg2, h2, ht2, hm2⟩
  have hA2 := hA w2 ht2
  have hs2 := ht2.size
  have hl2 : (L ++ shortL n).length ≤ 10000000 := by rw [List.length_append]; have := (shortL_len n).2; omega
  go_wp2_with fail
  refine (lay_any base b mg2 _ A n c l B w2 h2 hA2 (by omega) (by omega)).mono ?_
  rintro e w3 ⟨rfl, hw⟩
  have hz := WroteP.two ht2 hm2 ⟨rfl, hw⟩
  rw [List.append_assoc] at hz
  have HW := hide hz
  clear hz hw
  go_wp2
  first | go_end0 | refine bodyPost_ret (results_none rfl _ _ _) rfl ?_
  exact HW.out
theorem zeroX_at (w : World) (B : Nat) : VwIn w B zeroX :=
  ⟨by decide, Es.none_, Nat.le_refl _, Nat.zero_le _, Es.none_, Nat.le_refl _, Nat.zero_le _, fun y hy => by simp [zeroX] at hy, Es.none_, Nat.le_refl _, Nat.zero_le _⟩
set_option maxRecDepth 100000 in
set_option maxHeartbeats 1000000 in
theorem cput_far (y : Cx) (base b B Bv : Nat) (mg : Option Nat) (L : List UInt8) (w : World) (h : WrAt w base b mg L) (hbase : base ≤ w.heap.size) (hn : L.length ≤ 500000) (hy : CxIn w B y) (hBw : B ≤ w.heap.size) (hfar : ∀ W, Turn w W b mg → Bs W B y.A y.n y.l) (hvw : VwIn w Bv y.x) (hB : Bv ≤ base) (hsy : CSmall y) (hmay : MayC y.m) :
    Calls Tryd.prog 69 #[.pointer (some ⟨b, 0, none⟩), .agg #[.int .i64 y.kind, .int .u16 (y.p.i : Int), .int .u32 (y.p.k : Int), .int .u64 (y.num : Int), .int .u64 (y.vn : Int), .slice y.A y.n y.c, .int .u64 (y.x.id : Int), .slice y.x.A y.x.m y.x.c, .slice y.x.B y.x.d y.x.e, .slice y.x.C y.x.f y.x.g]] w (WroteP w base b mg (L ++ formC y.m)) := by
  have hbz : Below w.heap.size w (w.alloc (.cells #[.int .i64 y.kind, .int .u16 (y.p.i : Int), .int .u32 (y.p.k : Int), .int .u64 (y.num : Int), .int .u64 (y.vn : Int), .slice y.A y.n y.c, .int .u64 (y.x.id : Int), .slice y.x.A y.x.m y.x.c, .slice y.x.B y.x.d y.x.e, .slice y.x.C y.x.f y.x.g] 35)) := (Below.refl _ _).alloc (Nat.le_refl _) _
  have v0 := CAt.mk_ w y
  have HFAR := hide hfar
  clear hfar
  have ck := check9_any y B (w.alloc (.cells #[.int .i64 y.kind, .int .u16 (y.p.i : Int), .int .u32 (y.p.k : Int), .int .u64 (y.num : Int), .int .u64 (y.vn : Int), .slice y.A y.n y.c, .int .u64 (y.x.id : Int), .slice y.x.A y.x.m y.x.c, .slice y.x.B y.x.d y.x.e, .slice y.x.C y.x.f y.x.g] 35)) true (hy.below (hbz.mono hBw)) hsy.v (Nat.le_trans hBw hbz.size) ⟨fun _ => hmay.but, fun _ => rfl⟩
  rw [show y.n = y.l.length from hy.bs.len.symm, ckE_ok (by have := hmay.short; simp only [Cx.m] at this; omega)] at ck
  rw [show y.l.length = y.n from hy.bs.len] at ck
  obtain ⟨kind, p, num, vn, A, n, c, l, xv⟩ := y
  obtain ⟨j0, j1, j2, j3, j4, j5, j6, j7, j8, j9⟩ := v0.cells
  have hw1 := h.later hbz
  have hby := hy.below (hbz.mono hBw)
  obtain ⟨i1, i2, i3, i4, i5, i6, i7, i8⟩ := hy
  have hbl := h.lt
  dsimp only at *
  have hz1 : (w.alloc (.cells #[.int .i64 kind, .int .u16 (p.i : Int), .int .u32 (p.k : Int), .int .u64 (num : Int), .int .u64 (vn : Int), .slice A n c, .int .u64 (xv.id : Int), .slice xv.A xv.m xv.c, .slice xv.B xv.d xv.e, .slice xv.C xv.f xv.g] 35)).heap.size = w.heap.size + 1 := by simp
  generalize hwq : w.alloc (.cells #[.int .i64 kind, .int .u16 (p.i : Int), .int .u32 (p.k : Int), .int .u64 (num : Int), .int .u64 (vn : Int), .slice A n c, .int .u64 (xv.id : Int), .slice xv.A xv.m xv.c, .slice xv.B xv.d xv.e, .slice xv.C xv.f xv.g] 35) = w1 at *
  go_enter Tryd.func69, Tryd.ntmps69
  go_wp2_with fail
  refine ck.mono ?_
  rintro e w2 ⟨rfl, hb⟩
  have hb2 := hbz.trans (hb.mono hbz.size)
  have v2 := v0.later hb
  have hw2 := h.later hb2
  have hs2 := hb.size
  clear ck v0 hbz hby hwq hw1 hb j0 j1 j2 j3 j4 j5 j6 j7 j8 j9
  obtain ⟨j0, j1, j2, j3, j4, j5, j6, j7, j8, j9⟩ := v2.cells
  dsimp only at j0 j1 j2 j3 j4 j5 j6 j7 j8 j9
  have hmb : ∀ g, mg = some g → g < w.heap.size := fun g hg => (h.mlt g hg).2.1
  have n1 : w.heap.size ≠ b := by omega
  have n2 : some w.heap.size ≠ mg := fun e => by have := hmb _ e.symm; omega
  have hsz2 : base ≤ w2.heap.size := Nat.le_trans hbase hb2.size
  have low2 : Below base w w2 := hb2.mono hbase
  have hlt2 : w.heap.size < w2.heap.size := v2.lt
  have HB := hide hmay.but
  have HS := hide hmay.short
  have HW := hide hb2
  clear hmay hb2 hmb h
  by_cases k1 : kind = 1
  · subst k1
    have cw : Calls Tryd.prog 61 #[.pointer (some ⟨b, 0, none⟩), .int .u64 1] w2 (WroteP w2 base b mg (L ++ shortL 1)) := wnum_any base b mg L 1 w2 hw2 hsz2 (by omega) (by decide)
    go_wp2_with fail
    refine cw.mono ?_
    rintro e w3 ⟨rfl, mg3, h3, ht3, hm3⟩
    have v3 := v2.turn ht3 n1 n2
    have HR := hide (WroteP.ahead HW.out ⟨rfl, mg3, h3, ht3, hm3⟩)
    clear h3 ht3 hm3 cw j0 j1 j2 j3 j4 j5 j6 j7 j8 j9
    obtain ⟨j0, j1, j2, j3, j4, j5, j6, j7, j8, j9⟩ := v3.cells
    dsimp only at j0 j1 j2 j3 j4 j5 j6 j7 j8 j9
    go_wp2
    first | go_end0 | refine bodyPost_ret (results_none rfl _ _ _) rfl ?_
    have e1 : formC (Cx.m ⟨1, p, num, vn, A, n, c, l, xv⟩) = shortL 1 := by unfold formC tailC Cx.m; simp
    rw [e1]
    exact HR.out
  have q1 : (kind == 1) = false := by rw [beq_eq_false_iff_ne]; exact k1
  by_cases k2 : kind = 2
  · subst k2
    obtain ⟨m1, m2, m3, m4⟩ := (but2 rfl).1 HB.out
    have b2 := m2.2
    have b3 := m3.2
    simp only [Cx.m] at b2 b3
    clear m1 m2 m3 m4
    have hlen := i5.len
    have hl2 := HS.out
    simp only [Cx.m] at hl2
    rw [hlen] at hl2
    have s1 := (shortL_len 2).2
    have s2 := pidL_len p.i p.k
    have s3 := (shortL_len num).2
    have s4 := (shortL_len vn).2
    have e1 : L ++ shortL 2 ++ pidL p.i p.k ++ shortL num ++ shortL vn ++ (shortL n ++ l) = L ++ formC (Cx.m ⟨2, p, num, vn, A, n, c, l, xv⟩) := by
      unfold formC tailC Cx.m
      simp [List.append_assoc, hlen]
    have HE := hide e1
    clear e1 hlen
    have cw : Calls Tryd.prog 61 #[.pointer (some ⟨b, 0, none⟩), .int .u64 2] w2 (WroteP w2 base b mg (L ++ shortL 2)) := wnum_any base b mg L 2 w2 hw2 hsz2 (by omega) (by decide)
    go_wp2_with fail
    refine cw.mono ?_
    rintro e w3 ⟨rfl, mg3, h3, ht3, hm3⟩
    have v3 := v2.turn ht3 n1 n2
    have low3 := low2.trans (hw2.turned ht3 hsz2)
    have hsz3 := Nat.le_trans hsz2 ht3.size
    have n3 := hm3.ne n2 hlt2
    have hlt3 := v3.lt
    clear cw j0 j1 j2 j3 j4 j5 j6 j7 j8 j9 v2
    obtain ⟨j0, j1, j2, j3, j4, j5, j6, j7, j8, j9⟩ := v3.cells
    dsimp only at j0 j1 j2 j3 j4 j5 j6 j7 j8 j9
    have cp := wpid_any base b mg3 (L ++ shortL 2) p.i p.k w3 h3 hsz3 (by rw [List.length_append]; omega) p.hi p.hk
    have HT3 := hide (And.intro ht3 hm3)
    clear ht3 hm3
    go_wp2_with fail
    refine cp.mono ?_
    rintro e w4 ⟨rfl, mg4, h4, ht4, hm4⟩
    have v4 := v3.turn ht4 n1 n3
    have low4 := low3.trans (h3.turned ht4 hsz3)
    have hsz4 := Nat.le_trans hsz3 ht4.size
    have n4 := hm4.ne n3 hlt3
    have hlt4 := v4.lt
    have HT4 := hide (Turn.two HT3.out.1 HT3.out.2 ht4 hm4)
    clear cp j0 j1 j2 j3 j4 j5 j6 j7 j8 j9 v3 h3 ht4 hm4 HT3
    obtain ⟨j0, j1, j2, j3, j4, j5, j6, j7, j8, j9⟩ := v4.cells
    dsimp only at j0 j1 j2 j3 j4 j5 j6 j7 j8 j9
    have cn := wnum_any base b mg4 _ num w4 h4 hsz4 (by simp only [List.length_append]; omega) (by omega)
    go_wp2_with fail
    refine cn.mono ?_
    rintro e w5 ⟨rfl, mg5, h5, ht5, hm5⟩
    have v5 := v4.turn ht5 n1 n4
    have low5 := low4.trans (h4.turned ht5 hsz4)
    have hsz5 := Nat.le_trans hsz4 ht5.size
    have n5 := hm5.ne n4 hlt4
    have hlt5 := v5.lt
    have HT5 := hide (Turn.two HT4.out.1 HT4.out.2 ht5 hm5)
    clear cn j0 j1 j2 j3 j4 j5 j6 j7 j8 j9 v4 h4 ht5 hm5 HT4
    obtain ⟨j0, j1, j2, j3, j4, j5, j6, j7, j8, j9⟩ := v5.cells
    dsimp only at j0 j1 j2 j3 j4 j5 j6 j7 j8 j9
    have cn := wnum_any base b mg5 _ vn w5 h5 hsz5 (by simp only [List.length_append]; omega) (by omega)
    go_wp2_with fail
    refine cn.mono ?_
    rintro e w6 ⟨rfl, mg6, h6, ht6, hm6⟩
    have v6 := v5.turn ht6 n1 n5
    have low6 := low5.trans (h5.turned ht6 hsz5)
    have hsz6 := Nat.le_trans hsz5 ht6.size
    have n6 := hm6.ne n5 hlt5
    have hlt6 := v6.lt
    have HT6 := hide (Turn.two HT5.out.1 HT5.out.2 ht6 hm6)
    clear cn j0 j1 j2 j3 j4 j5 j6 j7 j8 j9 v5 h5 ht6 hm6 HT5
    obtain ⟨j0, j1, j2, j3, j4, j5, j6, j7, j8, j9⟩ := v6.cells
    dsimp only at j0 j1 j2 j3 j4 j5 j6 j7 j8 j9
    have cb := wbytes_far base b B mg6 _ A n c l w6 h6 hsz6 (by simp only [List.length_append]; omega) (fun W hT => HFAR.out W (Turn.ahead HW.out (HT6.out.1.trans hT HT6.out.2))) (by omega)
    go_wp2_with fail
    refine cb.mono ?_
    rintro e w7 ⟨rfl, mg7, h7, ht7, hm7⟩
    have HT7 := hide (Turn.two HT6.out.1 HT6.out.2 ht7 hm7)
    rw [HE.out] at h7
    have hw : WroteP w base b mg (L ++ formC (Cx.m ⟨2, p, num, vn, A, n, c, l, xv⟩)) (.returned (.tuple #[])) w7 := WroteP.ahead HW.out ⟨rfl, mg7, h7, HT7.out.1, HT7.out.2⟩
    have HR := hide hw
    clear hw cb j0 j1 j2 j3 j4 j5 j6 j7 j8 j9 v6 h6 ht7 hm7 HT6 h7
    go_wp2
    first | go_end0 | refine bodyPost_ret (results_none rfl _ _ _) rfl ?_
    exact HR.out
  have q2 : (kind == 2) = false := by rw [beq_eq_false_iff_ne]; exact k2
  have k3 : kind = 3 := by
    rcases HB.out.kind with e | e | e
    · exact absurd e k1
    · exact absurd e k2
    · exact e
  subst k3
  have hmv := ((but3 rfl).1 HB.out).1
  simp only [Cx.m] at hmv
  have e1 : L ++ shortL 3 ++ viewL xv.v = L ++ formC (Cx.m ⟨3, p, num, vn, A, n, c, l, xv⟩) := by
    unfold formC tailC Cx.m
    simp [List.append_assoc]
  have HE := hide e1
  clear e1
  have s1 := (shortL_len 3).2
  have cw : Calls Tryd.prog 61 #[.pointer (some ⟨b, 0, none⟩), .int .u64 3] w2 (WroteP w2 base b mg (L ++ shortL 3)) := wnum_any base b mg L 3 w2 hw2 hsz2 (by omega) (by decide)
  go_wp2_with fail
  refine cw.mono ?_
  rintro e w3 ⟨rfl, mg3, h3, ht3, hm3⟩
  have v3 := v2.turn ht3 n1 n2
  have low3 := low2.trans (hw2.turned ht3 hsz2)
  have hsz3 := Nat.le_trans hsz2 ht3.size
  clear cw j0 j1 j2 j3 j4 j5 j6 j7 j8 j9 v2
  obtain ⟨j0, j1, j2, j3, j4, j5, j6, j7, j8, j9⟩ := v3.cells
  dsimp only at j0 j1 j2 j3 j4 j5 j6 j7 j8 j9
  have cv := vput_any xv base b Bv mg3 _ w3 h3 hsz3 (by simp only [List.length_append]; omega) (hvw.below (low3.mono hB)) hB hsy.v hmv
  have HT3 := hide (And.intro ht3 hm3)
  clear ht3 hm3
  go_wp2_with fail
  refine cv.mono ?_
  rintro e w4 ⟨rfl, mg4, h4, ht4, hm4⟩
  have HT4 := hide (Turn.two HT3.out.1 HT3.out.2 ht4 hm4)
  rw [HE.out] at h4
  have hw : WroteP w base b mg (L ++ formC (Cx.m ⟨3, p, num, vn, A, n, c, l, xv⟩)) (.returned (.tuple #[])) w4 := WroteP.ahead HW.out ⟨rfl, mg4, h4, HT4.out.1, HT4.out.2⟩
  have HR := hide hw
  clear hw cv j0 j1 j2 j3 j4 j5 j6 j7 j8 j9 v3 h3 ht4 hm4 HT3 h4
  go_wp2
  first | go_end0 | refine bodyPost_ret (results_none rfl _ _ _) rfl ?_
  exact HR.out
theorem cput_any (y : Cx) (base b B : Nat) (mg : Option Nat) (L : List UInt8) (w : World) (h : WrAt w base b mg L) (hbase : base ≤ w.heap.size) (hn : L.length ≤ 500000) (hy : CxIn w B y) (hB : B ≤ base) (hsy : CSmall y) (hmay : MayC y.m) :
    Calls Tryd.prog 69 #[.pointer (some ⟨b, 0, none⟩), .agg #[.int .i64 y.kind, .int .u16 (y.p.i : Int), .int .u32 (y.p.k : Int), .int .u64 (y.num : Int), .int .u64 (y.vn : Int), .slice y.A y.n y.c, .int .u64 (y.x.id : Int), .slice y.x.A y.x.m y.x.c, .slice y.x.B y.x.d y.x.e, .slice y.x.C y.x.f y.x.g]] w (WroteP w base b mg (L ++ formC y.m)) :=
  cput_far y base b B B mg L w h hbase hn hy (Nat.le_trans hB hbase) (fun W hT => hy.bs.below (hT.below (Nat.le_trans hB hbase) (Nat.le_trans hB h.1) (fun g hg => Nat.le_trans hB (h.mlt g hg).1))) hy.vw hB hsy hmay
end Go.Proofs.YtjmkecaljkcoiaaDoor
