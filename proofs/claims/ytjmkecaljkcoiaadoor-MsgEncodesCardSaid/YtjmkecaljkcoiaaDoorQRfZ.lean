import Derived.Test.YtjmkecaljkcoiaaDoorQRfY
import Derived.Test.YtjmkecaljkcoiaaDoorQCmd4
import Derived.Test.YtjmkecaljkcoiaaDoorQCmd7
namespace Go.Proofs.YtjmkecaljkcoiaaDoor
open Go.RowKit Go.Maps
set_option linter.unusedVariables false
set_option linter.unusedSimpArgs false
set_option maxRecDepth 100000 in
set_option maxHeartbeats 2000000 in
theorem rform9_any (y : Cx) (B : Nat) (w : World) (h : CxIn w B y) (hs : CSmall y) (hB : B ≤ w.heap.size) (hmay : MayC y.m) :
    Calls Tryd.prog 42 #[.agg #[.int .i64 y.kind, .int .u16 (y.p.i : Int), .int .u32 (y.p.k : Int), .int .u64 (y.num : Int), .int .u64 (y.vn : Int), .slice y.A y.n y.c, .int .u64 (y.x.id : Int), .slice y.x.A y.x.m y.x.c, .slice y.x.B y.x.d y.x.e, .slice y.x.C y.x.f y.x.g]] w (MakesB w (formC y.m)) := by
  have hbz : Below w.heap.size w (w.alloc (.cells #[.int .i64 y.kind, .int .u16 (y.p.i : Int), .int .u32 (y.p.k : Int), .int .u64 (y.num : Int), .int .u64 (y.vn : Int), .slice y.A y.n y.c, .int .u64 (y.x.id : Int), .slice y.x.A y.x.m y.x.c, .slice y.x.B y.x.d y.x.e, .slice y.x.C y.x.f y.x.g] 35)) := (Below.refl _ _).alloc (Nat.le_refl _) _
  have v0 := CAt.mk_ w y
  obtain ⟨kind, p, num, vn, A, n, c, l, xv⟩ := y
  have hv := h.vw
  have hsv := hs.v
  have hsn := hs.n
  obtain ⟨i1, i2, i3, i4, i5, i6, i7, i8⟩ := h
  have HB := hide hmay.but
  have hlen := i5.len
  clear hs
  dsimp only at *
  generalize hwq : w.alloc (.cells #[.int .i64 kind, .int .u16 (p.i : Int), .int .u32 (p.k : Int), .int .u64 (num : Int), .int .u64 (vn : Int), .slice A n c, .int .u64 (xv.id : Int), .slice xv.A xv.m xv.c, .slice xv.B xv.d xv.e, .slice xv.C xv.f xv.g] 35) = w1 at *
  have hs1 := hbz.size
  have g1 := v0.lt
  obtain ⟨j0, j1, j2, j3, j4, j5, j6, j7, j8, j9⟩ := v0.cells
  dsimp only at j0 j1 j2 j3 j4 j5 j6 j7 j8 j9
  clear hmay
  by_cases k1 : kind = 1
  · subst k1
    have e1 : formC (Cx.m ⟨1, p, num, vn, A, n, c, l, xv⟩) = shortL 1 := by unfold formC tailC Cx.m; simp
    rw [e1]
    have cw : Calls Tryd.prog 38 #[.int .u64 1] w1 (MakesB w1 (shortL 1)) := rnum7_any 1 w1 (by decide)
    have wk : IntKind.u64.wrap 1 = 1 := by rfl
    go_enter Tryd.func42, Tryd.ntmps42
    go_wp2_with fail
    refine cw.mono ?_
    rintro e w2 ⟨A2, c2, rfl, ho2, hb2⟩
    have v2 := v0.later hb2
    have HM := Lib.hid (⟨A2, c2, rfl, ho2.mono hs1, hbz.trans (hb2.mono hs1)⟩ : MakesB w (shortL 1) (.returned (.slice A2 (shortL 1).length c2)) w2)
    clear cw ho2 hb2 v0 j0 j1 j2 j3 j4 j5 j6 j7 j8 j9
    obtain ⟨j0, j1, j2, j3, j4, j5, j6, j7, j8, j9⟩ := v2.cells
    dsimp only at j0 j1 j2 j3 j4 j5 j6 j7 j8 j9
    generalize shortL 1 = l0 at *
    go_wp2
    go_ret
    exact HM.out
  have q1 : (kind == 1) = false := by rw [beq_eq_false_iff_ne]; exact k1
  by_cases k2 : kind = 2
  · subst k2
    have e1 : shortL 2 ++ pidL p.i p.k ++ shortL num ++ shortL vn ++ (shortL n ++ l) = formC (Cx.m ⟨2, p, num, vn, A, n, c, l, xv⟩) := by
      unfold formC tailC Cx.m
      simp [List.append_assoc, hlen]
    have s1 := (shortL_len 2).2
    have s2 := pidL_len p.i p.k
    have s3 := (shortL_len num).2
    have s4 := (shortL_len vn).2
    have s5 : (shortL n ++ l).length ≤ 10 + n := by have := (shortL_len n).2; rw [List.length_append]; omega
    have r1 : ∀ W, Calls Tryd.prog 38 #[.int .u64 2] W (MakesB W (shortL 2)) := fun W => rnum7_any 2 W (by decide)
    have r2 := fun W => rpid_any p.i p.k W p.hi p.hk
    have r3 := fun W => rnum7_any num W i3
    have r4 := fun W => rnum7_any vn W i4
    have r5 := fun W (hW : Below w.heap.size w W) => rbytes7_any A n c l B W (i5.below (hW.mono hB)) (Nat.le_trans hB hW.size) (by omega)
    have wk : IntKind.u64.wrap 2 = 2 := by rfl
    generalize shortL 2 = l1 at *
    generalize pidL p.i p.k = l2 at *
    generalize shortL num = l3 at *
    generalize shortL vn = l4 at *
    generalize shortL n ++ l = l5 at *
    have HE := hide e1
    clear e1
    go_enter Tryd.func42, Tryd.ntmps42
    go_wp2_with fail
    refine (r1 _).mono ?_
    rintro e w2 ⟨A2, c2, rfl, ho, hb⟩
    have q2 := hb
    have o2 := ho
    clear ho hb r1 j0 j1 j2 j3 j4 j5 j6 j7 j8 j9
    obtain ⟨j0, j1, j2, j3, j4, j5, j6, j7, j8, j9⟩ := (v0.later q2).cells
    dsimp only at j0 j1 j2 j3 j4 j5 j6 j7 j8 j9
    have z2 := q2.size
    go_wp2_with fail
    refine (r2 _).mono ?_
    rintro e w3 ⟨A3, c3, rfl, ho, hb⟩
    have o3 := o2.later hb
    have q3 := q2.trans (hb.mono z2)
    have hbs := ho.bs
    have z3 := q3.size
    clear ho hb o2
    go_wp2_with (at_builtin; refine wp_bytes_own _ rfl (.tmp 11) (.tmp 14) rfl w1.heap.size l1.length _ l1 rfl o3 _ A3 l2.length c3 l2 rfl hbs (by omega) w1.heap.size w1 q3 (Nat.le_refl _) z3 ?_)
    intro A4 c4 w4 ho q4 s
    have o4 : OwnB w4 w1.heap.size (.slice A4 (l1.length + l2.length) c4) (l1.length + l2.length) (l1 ++ l2) := by simpa only [List.append_assoc] using ho
    clear ho hbs o3 s q3 z3 z2 q2 j0 j1 j2 j3 j4 j5 j6 j7 j8 j9
    obtain ⟨j0, j1, j2, j3, j4, j5, j6, j7, j8, j9⟩ := (v0.later q4).cells
    dsimp only at j0 j1 j2 j3 j4 j5 j6 j7 j8 j9
    have z4 := q4.size
    go_wp2_with fail
    refine (r3 _).mono ?_
    rintro e w5 ⟨A5, c5, rfl, ho, hb⟩
    have o5 := o4.later hb
    have q5 := q4.trans (hb.mono z4)
    have hbs := ho.bs
    have z5 := q5.size
    clear ho hb o4
    go_wp2_with (at_builtin; refine wp_bytes_own _ rfl (.tmp 16) (.tmp 19) rfl w1.heap.size (l1.length+l2.length) _ (l1++l2) rfl o5 _ A5 l3.length c5 l3 rfl hbs (by omega) w1.heap.size w1 q5 (Nat.le_refl _) z5 ?_)
    intro A6 c6 w6 ho q6 s
    have o6 : OwnB w6 w1.heap.size (.slice A6 ((l1.length+l2.length) + l3.length) c6) ((l1.length+l2.length) + l3.length) ((l1++l2) ++ l3) := by simpa only [List.append_assoc] using ho
    clear ho hbs o5 s q5 z5 z4 q4 j0 j1 j2 j3 j4 j5 j6 j7 j8 j9
    obtain ⟨j0, j1, j2, j3, j4, j5, j6, j7, j8, j9⟩ := (v0.later q6).cells
    dsimp only at j0 j1 j2 j3 j4 j5 j6 j7 j8 j9
    have z6 := q6.size
    go_wp2_with fail
    refine (r4 _).mono ?_
    rintro e w7 ⟨A7, c7, rfl, ho, hb⟩
    have o7 := o6.later hb
    have q7 := q6.trans (hb.mono z6)
    have hbs := ho.bs
    have z7 := q7.size
    clear ho hb o6
    go_wp2_with (at_builtin; refine wp_bytes_own _ rfl (.tmp 21) (.tmp 24) rfl w1.heap.size (l1.length+l2.length+l3.length) _ (l1++l2++l3) rfl o7 _ A7 l4.length c7 l4 rfl hbs (by omega) w1.heap.size w1 q7 (Nat.le_refl _) z7 ?_)
    intro A8 c8 w8 ho q8 s
    have o8 : OwnB w8 w1.heap.size (.slice A8 ((l1.length+l2.length+l3.length) + l4.length) c8) ((l1.length+l2.length+l3.length) + l4.length) ((l1++l2++l3) ++ l4) := by simpa only [List.append_assoc] using ho
    clear ho hbs o7 s q7 z7 z6 q6 j0 j1 j2 j3 j4 j5 j6 j7 j8 j9
    obtain ⟨j0, j1, j2, j3, j4, j5, j6, j7, j8, j9⟩ := (v0.later q8).cells
    dsimp only at j0 j1 j2 j3 j4 j5 j6 j7 j8 j9
    have z8 := q8.size
    go_wp2_with fail
    refine (r5 _ (hbz.trans (q8.mono hs1))).mono ?_
    rintro e w9 ⟨A9, c9, rfl, ho, hb⟩
    have o9 := o8.later hb
    have q9 := q8.trans (hb.mono z8)
    have hbs := ho.bs
    have z9 := q9.size
    clear ho hb o8
    go_wp2_with (at_builtin; refine wp_bytes_own _ rfl (.tmp 26) (.tmp 29) rfl w1.heap.size (l1.length+l2.length+l3.length+l4.length) _ (l1++l2++l3++l4) rfl o9 _ A9 l5.length c9 l5 rfl hbs (by omega) w1.heap.size w1 q9 (Nat.le_refl _) z9 ?_)
    intro A10 c10 w10 ho q10 s
    have o10 : OwnB w10 w1.heap.size (.slice A10 ((l1.length+l2.length+l3.length+l4.length) + l5.length) c10) ((l1.length+l2.length+l3.length+l4.length) + l5.length) ((l1++l2++l3++l4) ++ l5) := by simpa only [List.append_assoc] using ho
    clear ho hbs o9 s q9 z9 z8 q8 j0 j1 j2 j3 j4 j5 j6 j7 j8 j9
    obtain ⟨j0, j1, j2, j3, j4, j5, j6, j7, j8, j9⟩ := (v0.later q10).cells
    dsimp only at j0 j1 j2 j3 j4 j5 j6 j7 j8 j9
    have e1 := HE.out
    rw [e1] at o10
    have hml := o10.len
    have HM := Lib.hid (⟨A10, c10, by rw [hml], hml ▸ o10.mono hs1, hbz.trans (q10.mono hs1)⟩ : MakesB w (formC (Cx.m ⟨2, p, num, vn, A, n, c, l, xv⟩)) (.returned (.slice A10 (l1.length + l2.length + l3.length + l4.length + l5.length) c10)) w10)
    clear hml e1 o10
    go_wp2
    go_ret
    exact HM.out
  have q2 : (kind == 2) = false := by rw [beq_eq_false_iff_ne]; exact k2
  have k3 : kind = 3 := by
    rcases HB.out.kind with e | e | e
    · exact absurd e k1
    · exact absurd e k2
    · exact e
  subst k3
  have hmv := ((but3 rfl).1 HB.out).1
  simp only [Cx.m] at hmv
  have e1 : shortL 3 ++ viewL xv.v = formC (Cx.m ⟨3, p, num, vn, A, n, c, l, xv⟩) := by
    unfold formC tailC Cx.m
    simp [List.append_assoc]
  have r1 : ∀ W, Calls Tryd.prog 38 #[.int .u64 3] W (MakesB W (shortL 3)) := fun W => rnum7_any 3 W (by decide)
  have r2 := fun W (hW : Below w.heap.size w W) => rform8_any xv B W (hv.below (hW.mono hB)) hsv (Nat.le_trans hB hW.size) hmv
  have s1 := (shortL_len 3).2
  have s2 := viewL_len9 hmv
  have wk : IntKind.u64.wrap 3 = 3 := by rfl
  generalize shortL 3 = l1 at *
  generalize viewL xv.v = l2 at *
  have HE := hide e1
  clear e1 hmv
  go_enter Tryd.func42, Tryd.ntmps42
  go_wp2_with fail
  refine (r1 _).mono ?_
  rintro e w2 ⟨A2, c2, rfl, ho, hb⟩
  have q2' := hb
  have o2 := ho
  clear ho hb r1 j0 j1 j2 j3 j4 j5 j6 j7 j8 j9
  obtain ⟨j0, j1, j2, j3, j4, j5, j6, j7, j8, j9⟩ := (v0.later q2').cells
  dsimp only at j0 j1 j2 j3 j4 j5 j6 j7 j8 j9
  go_wp2_with fail
  refine (r2 _ (hbz.trans (q2'.mono hs1))).mono ?_
  rintro e w3 ⟨A3, c3, rfl, ho3, hb3⟩
  have o2' := o2.later hb3
  have q3 := q2'.trans (hb3.mono q2'.size)
  have hbs := ho3.bs
  have s3 := q3.size
  clear ho3 hb3 r2 j0 j1 j2 j3 j4 j5 j6 j7 j8 j9 o2
  obtain ⟨j0, j1, j2, j3, j4, j5, j6, j7, j8, j9⟩ := (v0.later q3).cells
  dsimp only at j0 j1 j2 j3 j4 j5 j6 j7 j8 j9
  go_wp2_with (at_builtin; refine wp_bytes_own _ rfl (.tmp 34) (.tmp 37) rfl w1.heap.size l1.length _ l1 rfl o2' _ A3 l2.length c3 l2 rfl hbs (by omega) w1.heap.size w1 q3 (Nat.le_refl _) s3 ?_)
  intro A4 c4 w4 o4 q4 s4
  have e1 := HE.out
  rw [e1] at o4
  have hml := o4.len
  have HM := Lib.hid (⟨A4, c4, by rw [hml], hml ▸ o4.mono hs1, hbz.trans (q4.mono hs1)⟩ : MakesB w (formC (Cx.m ⟨3, p, num, vn, A, n, c, l, xv⟩)) (.returned (.slice A4 (l1.length + l2.length) c4)) w4)
  clear hml e1 o4
  go_wp2
  go_ret
  exact HM.out
end Go.Proofs.YtjmkecaljkcoiaaDoor
