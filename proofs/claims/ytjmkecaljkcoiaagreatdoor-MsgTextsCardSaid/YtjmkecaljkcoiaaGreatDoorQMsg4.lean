import Derived.Test.YtjmkecaljkcoiaaGreatDoorQMsg2
import Derived.Test.YtjmkecaljkcoiaaGreatDoorQCmd3
namespace Go.Proofs.YtjmkecaljkcoiaaGreatDoor
open Go.RowKit Go.Maps
set_option linter.unusedVariables false
set_option linter.unusedSimpArgs false
set_option maxRecDepth 100000 in
set_option maxHeartbeats 4000000 in
theorem wrong10_any (z : Mx) (B : Nat) (w : World) (h : MxIn w B z) (hs : MSmall z) (hB : B ≤ w.heap.size) :
    Calls Tryz.prog 113 #[.agg #[.int .i64 z.kind, .int .u16 z.who.i, .int .u32 z.who.k, .int .u64 z.view, .int .u64 z.slot, .int .u64 z.num, .int .i64 z.hops, .int .u32 z.b.r, .int .u16 z.b.p.i, .int .u32 z.b.p.k, .int .u32 z.a.r, .int .u16 z.a.p.i, .int .u32 z.a.p.k, .bool z.has, .int .i64 z.y.kind, .int .u16 z.y.p.i, .int .u32 z.y.p.k, .int .u64 z.y.num, .int .u64 z.y.vn, .slice z.y.A z.y.n z.y.c, .int .u64 z.y.x.id, .slice z.y.x.A z.y.x.m z.y.x.c, .slice z.y.x.B z.y.x.d z.y.x.e, .slice z.y.x.C z.y.x.f z.y.x.g, .int .u64 z.x.id, .slice z.x.A z.x.m z.x.c, .slice z.x.B z.x.d z.x.e, .slice z.x.C z.x.f z.x.g, .slice z.A z.n z.c]] w (SetsP w (rightF z.m)) := by
  obtain ⟨t0, ht0⟩ := bool_of (¬ (mayP z.who = true))
  obtain ⟨t1, ht1⟩ := bool_of (¬ (z.view ≤ 4611686018427387904))
  obtain ⟨t2, ht2⟩ := bool_of (¬ (z.slot ≤ 4611686018427387904))
  obtain ⟨t3, ht3⟩ := bool_of (¬ (mayP z.b.p = true))
  obtain ⟨t4, ht4⟩ := bool_of (¬ (z.num ≤ 4611686018427387904))
  obtain ⟨t5, ht5⟩ := bool_of (¬ (0 ≤ z.hops ∧ z.hops ≤ 4))
  obtain ⟨t6, ht6⟩ := bool_of (¬ (True))
  obtain ⟨t7, ht7⟩ := bool_of (¬ (mayP z.a.p = true))
  obtain ⟨t8, ht8⟩ := bool_of (¬ (MayC z.y.m))
  obtain ⟨t9, ht9⟩ := bool_of (¬ (MayV z.x.v))
  obtain ⟨t10, ht10⟩ := bool_of (¬ (z.l.length ≤ 200))
  have HT := hide (show (t0 = true ↔ ¬ (mayP z.who = true)) ∧ (t1 = true ↔ ¬ (z.view ≤ 4611686018427387904)) ∧ (t2 = true ↔ ¬ (z.slot ≤ 4611686018427387904)) ∧ (t3 = true ↔ ¬ (mayP z.b.p = true)) ∧ (t4 = true ↔ ¬ (z.num ≤ 4611686018427387904)) ∧ (t5 = true ↔ ¬ (0 ≤ z.hops ∧ z.hops ≤ 4)) ∧ (t6 = true ↔ ¬ (True)) ∧ (t7 = true ↔ ¬ (mayP z.a.p = true)) ∧ (t8 = true ↔ ¬ (MayC z.y.m)) ∧ (t9 = true ↔ ¬ (MayV z.x.v)) ∧ (t10 = true ↔ ¬ (z.l.length ≤ 200)) from ⟨ht0, ht1, ht2, ht3, ht4, ht5, ht6, ht7, ht8, ht9, ht10⟩)
  clear ht0 ht1 ht2 ht3 ht4 ht5 ht6 ht7 ht8 ht9 ht10
  have s0 := SetR.start w z
  obtain ⟨u8, hu8⟩ := bool_of (ButLen z.y.m)
  obtain ⟨r8, hr8⟩ : ∃ r, r = ckE u8 z.y.n := ⟨_, rfl⟩
  have x8 : (r8 != 0) = t8 := by
    have e := HT.out.2.2.2.2.2.2.2.2.1
    have e2 := ckE_may hu8
    rw [show z.y.m.d.length = z.y.n from h.cm.bs.len, ← hr8] at e2
    rw [← e2] at e
    cases t8
    · simp at e; rw [e]; rfl
    · simp at e; rw [bne_iff_ne]; exact e
  have CK := fun W (hb : Below w.heap.size w W) => check9_any z.y B W u8 (h.cm.below (hb.mono hB)) hs.c.v (Nat.le_trans hB hb.size) hu8
  rw [← hr8] at CK
  have CV := fun W (hb : Below w.heap.size w W) => check_any z.x B W (!t9) (h.vw.below (hb.mono hB)) hs.v (Nat.le_trans hB hb.size) (by
    have e := HT.out.2.2.2.2.2.2.2.2.2.1
    cases t9 <;> simp at e ⊢
    · exact e
    · exact e)
  have hlen := h.bs.len
  have HLEN := hide hlen
  have X8 := hide x8
  clear h hlen hs hu8 hr8 x8
  have hs1 : (w.alloc (.cells #[.int .i64 z.kind, .int .u16 z.who.i, .int .u32 z.who.k, .int .u64 z.view, .int .u64 z.slot, .int .u64 z.num, .int .i64 z.hops, .int .u32 z.b.r, .int .u16 z.b.p.i, .int .u32 z.b.p.k, .int .u32 z.a.r, .int .u16 z.a.p.i, .int .u32 z.a.p.k, .bool z.has, .int .i64 z.y.kind, .int .u16 z.y.p.i, .int .u32 z.y.p.k, .int .u64 z.y.num, .int .u64 z.y.vn, .slice z.y.A z.y.n z.y.c, .int .u64 z.y.x.id, .slice z.y.x.A z.y.x.m z.y.x.c, .slice z.y.x.B z.y.x.d z.y.x.e, .slice z.y.x.C z.y.x.f z.y.x.g, .int .u64 z.x.id, .slice z.x.A z.x.m z.x.c, .slice z.x.B z.x.d z.x.e, .slice z.x.C z.x.f z.x.g, .slice z.A z.n z.c] 50)).heap.size = w.heap.size + 1 := by simp
  generalize hw1 : ((w.alloc (.cells #[.int .i64 z.kind, .int .u16 z.who.i, .int .u32 z.who.k, .int .u64 z.view, .int .u64 z.slot, .int .u64 z.num, .int .i64 z.hops, .int .u32 z.b.r, .int .u16 z.b.p.i, .int .u32 z.b.p.k, .int .u32 z.a.r, .int .u16 z.a.p.i, .int .u32 z.a.p.k, .bool z.has, .int .i64 z.y.kind, .int .u16 z.y.p.i, .int .u32 z.y.p.k, .int .u64 z.y.num, .int .u64 z.y.vn, .slice z.y.A z.y.n z.y.c, .int .u64 z.y.x.id, .slice z.y.x.A z.y.x.m z.y.x.c, .slice z.y.x.B z.y.x.d z.y.x.e, .slice z.y.x.C z.y.x.f z.y.x.g, .int .u64 z.x.id, .slice z.x.A z.x.m z.x.c, .slice z.x.B z.x.d z.x.e, .slice z.x.C z.x.f z.x.g, .slice z.A z.n z.c] 50)).alloc (.cells #[.int .u16 0] 108)) = W0 at *
  go_enter Tryz.func113, Tryz.ntmps113
  go_upto_region 2 with fail
  go_cut [0] (fun s0 wx => SetR w z (orN 0 1 t0) wx)
  case first =>
    clear CK CV
    obtain ⟨j0, j1, j2, j3, j4, j5, j6, j7, j8, j9, j10, j11, j12, j13, j14, j15, j16, j17, j18, j19, j20, j21, j22, j23, j24, j25, j26, j27, j28⟩ := s0.at_.cells
    have c0 := s0.c0
    have hlt := s0.at_.lt
    have mk : ∀ W (S : SetR w z 0 W) t, Calls Tryz.prog 120 #[.pointer (some ⟨w.heap.size + 1, 0, none⟩), .int .u16 1, .bool t] W (MarkP W (w.heap.size + 1) (orN 0 1 t)) := fun W S t => mark_any _ 0 1 t W (by decide) (by decide) S.cell
    have cm := fun W => may_any z.who W
    have e : (!mayP z.who) = t0 := by
      have e := HT.out.1
      cases hm : mayP z.who <;> rw [hm] at e <;> cases t0 <;> simp at e ⊢
    generalize mayP z.who = b at *
    go_wp2_with fail
    refine (cm _).mono ?_
    rintro e w7 ⟨rfl, hb⟩
    have s' := s0.later hb
    clear hb c0 cm j0 j1 j2 j3 j4 j5 j6 j7 j8 j9 j10 j11 j12 j13 j14 j15 j16 j17 j18 j19 j20 j21 j22 j23 j24 j25 j26 j27 j28 HT HLEN
    go_wp2_with fail
    refine (mk _ s' _).mono ?_
    intro e w8 hm
    have hr := s'.mark hm
    obtain rfl := hm.out.1
    clear hm mk
    go_wp2_with fail
    go_meet
    exact hr
  case rest =>
  have s1 := hcut
  have l1 : orN 0 1 t0 < 2048 := orN_lt (by decide) (by decide)
  obtain ⟨n1, hn1⟩ : ∃ n, n = orN 0 1 t0 := ⟨_, rfl⟩
  rw [← hn1] at s1 l1
  have HN1 := hide hn1
  clear hcut hn1 s0
  go_upto_region 3 with fail
  go_cut [0] (fun s0 wx => SetR w z (orN n1 2 t1) wx)
  case first =>
    clear CK CV
    obtain ⟨j0, j1, j2, j3, j4, j5, j6, j7, j8, j9, j10, j11, j12, j13, j14, j15, j16, j17, j18, j19, j20, j21, j22, j23, j24, j25, j26, j27, j28⟩ := s1.at_.cells
    have c0 := s1.c0
    have hlt := s1.at_.lt
    have mk : ∀ W (S : SetR w z n1 W) t, Calls Tryz.prog 120 #[.pointer (some ⟨w.heap.size + 1, 0, none⟩), .int .u16 2, .bool t] W (MarkP W (w.heap.size + 1) (orN n1 2 t)) := fun W S t => mark_any _ n1 2 t W l1 (by decide) S.cell
    have s' := s1
    have x : decide ((4611686018427387904 : Int) < (z.view : Int)) = t1 := by
      have e := HT.out.2.1
      cases t1 <;> simp at e ⊢ <;> omega
    clear HT HLEN X8
    go_wp2_with fail
    refine (mk _ s' _).mono ?_
    intro e w8 hm
    have hr := s'.mark hm
    obtain rfl := hm.out.1
    clear hm mk
    go_wp2_with fail
    go_meet
    exact hr
  case rest =>
  have s2 := hcut
  have l2 : orN n1 2 t1 < 2048 := orN_lt l1 (by decide)
  obtain ⟨n2, hn2⟩ : ∃ n, n = orN n1 2 t1 := ⟨_, rfl⟩
  rw [← hn2] at s2 l2
  have HN2 := hide hn2
  clear hcut hn2 s1
  go_upto_region 4 with fail
  go_cut [0] (fun s0 wx => SetR w z (orN n2 4 t2) wx)
  case first =>
    clear CK CV
    obtain ⟨j0, j1, j2, j3, j4, j5, j6, j7, j8, j9, j10, j11, j12, j13, j14, j15, j16, j17, j18, j19, j20, j21, j22, j23, j24, j25, j26, j27, j28⟩ := s2.at_.cells
    have c0 := s2.c0
    have hlt := s2.at_.lt
    have mk : ∀ W (S : SetR w z n2 W) t, Calls Tryz.prog 120 #[.pointer (some ⟨w.heap.size + 1, 0, none⟩), .int .u16 4, .bool t] W (MarkP W (w.heap.size + 1) (orN n2 4 t)) := fun W S t => mark_any _ n2 4 t W l2 (by decide) S.cell
    have s' := s2
    have x : decide ((4611686018427387904 : Int) < (z.slot : Int)) = t2 := by
      have e := HT.out.2.2.1
      cases t2 <;> simp at e ⊢ <;> omega
    clear HT HLEN X8
    go_wp2_with fail
    refine (mk _ s' _).mono ?_
    intro e w8 hm
    have hr := s'.mark hm
    obtain rfl := hm.out.1
    clear hm mk
    go_wp2_with fail
    go_meet
    exact hr
  case rest =>
  have s3 := hcut
  have l3 : orN n2 4 t2 < 2048 := orN_lt l2 (by decide)
  obtain ⟨n3, hn3⟩ : ∃ n, n = orN n2 4 t2 := ⟨_, rfl⟩
  rw [← hn3] at s3 l3
  have HN3 := hide hn3
  clear hcut hn3 s2
  go_upto_region 5 with fail
  go_cut [0] (fun s0 wx => SetR w z (orN n3 8 t3) wx)
  case first =>
    clear CK CV
    obtain ⟨j0, j1, j2, j3, j4, j5, j6, j7, j8, j9, j10, j11, j12, j13, j14, j15, j16, j17, j18, j19, j20, j21, j22, j23, j24, j25, j26, j27, j28⟩ := s3.at_.cells
    have c0 := s3.c0
    have hlt := s3.at_.lt
    have mk : ∀ W (S : SetR w z n3 W) t, Calls Tryz.prog 120 #[.pointer (some ⟨w.heap.size + 1, 0, none⟩), .int .u16 8, .bool t] W (MarkP W (w.heap.size + 1) (orN n3 8 t)) := fun W S t => mark_any _ n3 8 t W l3 (by decide) S.cell
    have cm := fun W => may_any z.b.p W
    have e : (!mayP z.b.p) = t3 := by
      have e := HT.out.2.2.2.1
      cases hm : mayP z.b.p <;> rw [hm] at e <;> cases t3 <;> simp at e ⊢
    generalize mayP z.b.p = b at *
    go_wp2_with fail
    refine (cm _).mono ?_
    rintro e w7 ⟨rfl, hb⟩
    have s' := s3.later hb
    clear hb c0 cm j0 j1 j2 j3 j4 j5 j6 j7 j8 j9 j10 j11 j12 j13 j14 j15 j16 j17 j18 j19 j20 j21 j22 j23 j24 j25 j26 j27 j28 HT HLEN
    go_wp2_with fail
    refine (mk _ s' _).mono ?_
    intro e w8 hm
    have hr := s'.mark hm
    obtain rfl := hm.out.1
    clear hm mk
    go_wp2_with fail
    go_meet
    exact hr
  case rest =>
  have s4 := hcut
  have l4 : orN n3 8 t3 < 2048 := orN_lt l3 (by decide)
  obtain ⟨n4, hn4⟩ : ∃ n, n = orN n3 8 t3 := ⟨_, rfl⟩
  rw [← hn4] at s4 l4
  have HN4 := hide hn4
  clear hcut hn4 s3
  go_upto_region 6 with fail
  go_cut [0] (fun s0 wx => SetR w z (orN n4 16 t4) wx)
  case first =>
    clear CK CV
    obtain ⟨j0, j1, j2, j3, j4, j5, j6, j7, j8, j9, j10, j11, j12, j13, j14, j15, j16, j17, j18, j19, j20, j21, j22, j23, j24, j25, j26, j27, j28⟩ := s4.at_.cells
    have c0 := s4.c0
    have hlt := s4.at_.lt
    have mk : ∀ W (S : SetR w z n4 W) t, Calls Tryz.prog 120 #[.pointer (some ⟨w.heap.size + 1, 0, none⟩), .int .u16 16, .bool t] W (MarkP W (w.heap.size + 1) (orN n4 16 t)) := fun W S t => mark_any _ n4 16 t W l4 (by decide) S.cell
    have s' := s4
    have x : decide ((4611686018427387904 : Int) < (z.num : Int)) = t4 := by
      have e := HT.out.2.2.2.2.1
      cases t4 <;> simp at e ⊢ <;> omega
    clear HT HLEN X8
    go_wp2_with fail
    refine (mk _ s' _).mono ?_
    intro e w8 hm
    have hr := s'.mark hm
    obtain rfl := hm.out.1
    clear hm mk
    go_wp2_with fail
    go_meet
    exact hr
  case rest =>
  have s5 := hcut
  have l5 : orN n4 16 t4 < 2048 := orN_lt l4 (by decide)
  obtain ⟨n5, hn5⟩ : ∃ n, n = orN n4 16 t4 := ⟨_, rfl⟩
  rw [← hn5] at s5 l5
  have HN5 := hide hn5
  clear hcut hn5 s4
  go_upto_region 7 with fail
  go_cut [0] (fun s0 wx => SetR w z (orN n5 32 t5) wx)
  case first =>
    clear CK CV
    obtain ⟨j0, j1, j2, j3, j4, j5, j6, j7, j8, j9, j10, j11, j12, j13, j14, j15, j16, j17, j18, j19, j20, j21, j22, j23, j24, j25, j26, j27, j28⟩ := s5.at_.cells
    have c0 := s5.c0
    have hlt := s5.at_.lt
    have mk : ∀ W (S : SetR w z n5 W) t, Calls Tryz.prog 120 #[.pointer (some ⟨w.heap.size + 1, 0, none⟩), .int .u16 32, .bool t] W (MarkP W (w.heap.size + 1) (orN n5 32 t)) := fun W S t => mark_any _ n5 32 t W l5 (by decide) S.cell
    have s' := s5
    have e := HT.out.2.2.2.2.2.1
    clear HLEN X8 HT
    by_cases h0 : z.hops < 0
    · have z0 : decide (z.hops < 0) = true := decide_eq_true h0
      obtain rfl : t5 = true := e.2 (fun e2 => by omega)
      clear e h0
      go_wp2_with fail
      refine (mk _ s' _).mono ?_
      intro e w8 hm
      have hr := s'.mark hm
      obtain rfl := hm.out.1
      clear hm mk
      go_wp2_with fail
      go_meet
      exact hr
    · have z0 : decide (z.hops < 0) = false := decide_eq_false h0
      have x : decide (4 < z.hops) = t5 := by
        cases t5 <;> simp at e ⊢ <;> omega
      clear e h0
      go_wp2_with fail
      refine (mk _ s' _).mono ?_
      intro e w8 hm
      have hr := s'.mark hm
      obtain rfl := hm.out.1
      clear hm mk
      go_wp2_with fail
      go_meet
      exact hr
  case rest =>
  have s6 := hcut
  have l6 : orN n5 32 t5 < 2048 := orN_lt l5 (by decide)
  obtain ⟨n6, hn6⟩ : ∃ n, n = orN n5 32 t5 := ⟨_, rfl⟩
  rw [← hn6] at s6 l6
  have HN6 := hide hn6
  clear hcut hn6 s5
  go_upto_region 8 with fail
  go_cut [0] (fun s0 wx => SetR w z (orN n6 128 t7) wx)
  case first =>
    clear CK CV
    obtain ⟨j0, j1, j2, j3, j4, j5, j6, j7, j8, j9, j10, j11, j12, j13, j14, j15, j16, j17, j18, j19, j20, j21, j22, j23, j24, j25, j26, j27, j28⟩ := s6.at_.cells
    have c0 := s6.c0
    have hlt := s6.at_.lt
    have mk : ∀ W (S : SetR w z n6 W) t, Calls Tryz.prog 120 #[.pointer (some ⟨w.heap.size + 1, 0, none⟩), .int .u16 128, .bool t] W (MarkP W (w.heap.size + 1) (orN n6 128 t)) := fun W S t => mark_any _ n6 128 t W l6 (by decide) S.cell
    have cm := fun W => may_any z.a.p W
    have e : (!mayP z.a.p) = t7 := by
      have e := HT.out.2.2.2.2.2.2.2.1
      cases hm : mayP z.a.p <;> rw [hm] at e <;> cases t7 <;> simp at e ⊢
    generalize mayP z.a.p = b at *
    go_wp2_with fail
    refine (cm _).mono ?_
    rintro e w7 ⟨rfl, hb⟩
    have s' := s6.later hb
    clear hb c0 cm j0 j1 j2 j3 j4 j5 j6 j7 j8 j9 j10 j11 j12 j13 j14 j15 j16 j17 j18 j19 j20 j21 j22 j23 j24 j25 j26 j27 j28 HT HLEN
    go_wp2_with fail
    refine (mk _ s' _).mono ?_
    intro e w8 hm
    have hr := s'.mark hm
    obtain rfl := hm.out.1
    clear hm mk
    go_wp2_with fail
    go_meet
    exact hr
  case rest =>
  have s7 := hcut
  have l7 : orN n6 128 t7 < 2048 := orN_lt l6 (by decide)
  obtain ⟨n7, hn7⟩ : ∃ n, n = orN n6 128 t7 := ⟨_, rfl⟩
  rw [← hn7] at s7 l7
  have HN7 := hide hn7
  clear hcut hn7 s6
  go_upto_region 9 with fail
  go_cut [0] (fun s0 wx => SetR w z (orN n7 256 t8) wx)
  case first =>
    clear CV
    obtain ⟨j0, j1, j2, j3, j4, j5, j6, j7, j8, j9, j10, j11, j12, j13, j14, j15, j16, j17, j18, j19, j20, j21, j22, j23, j24, j25, j26, j27, j28⟩ := s7.at_.cells
    have c0 := s7.c0
    have hlt := s7.at_.lt
    have mk : ∀ W (S : SetR w z n7 W) t, Calls Tryz.prog 120 #[.pointer (some ⟨w.heap.size + 1, 0, none⟩), .int .u16 256, .bool t] W (MarkP W (w.heap.size + 1) (orN n7 256 t)) := fun W S t => mark_any _ n7 256 t W l7 (by decide) S.cell
    have cs := CK _ s7.below
    have x8 := X8.out
    go_wp2_with fail
    refine cs.mono ?_
    rintro e w7 ⟨rfl, hb⟩
    have s' := s7.later hb
    clear hb c0 cs CK j0 j1 j2 j3 j4 j5 j6 j7 j8 j9 j10 j11 j12 j13 j14 j15 j16 j17 j18 j19 j20 j21 j22 j23 j24 j25 j26 j27 j28 HT HLEN
    go_wp2_with fail
    refine (mk _ s' _).mono ?_
    intro e w8 hm
    have hr := s'.mark hm
    obtain rfl := hm.out.1
    clear hm mk
    go_wp2_with fail
    go_meet
    exact hr
  case rest =>
  have s8 := hcut
  have l8 : orN n7 256 t8 < 2048 := orN_lt l7 (by decide)
  obtain ⟨n8, hn8⟩ : ∃ n, n = orN n7 256 t8 := ⟨_, rfl⟩
  rw [← hn8] at s8 l8
  have HN8 := hide hn8
  clear hcut hn8 s7
  go_upto_region 10 with fail
  go_cut [0] (fun s0 wx => SetR w z (orN n8 512 t9) wx)
  case first =>
    clear CK
    obtain ⟨j0, j1, j2, j3, j4, j5, j6, j7, j8, j9, j10, j11, j12, j13, j14, j15, j16, j17, j18, j19, j20, j21, j22, j23, j24, j25, j26, j27, j28⟩ := s8.at_.cells
    have c0 := s8.c0
    have hlt := s8.at_.lt
    have mk : ∀ W (S : SetR w z n8 W) t, Calls Tryz.prog 120 #[.pointer (some ⟨w.heap.size + 1, 0, none⟩), .int .u16 512, .bool t] W (MarkP W (w.heap.size + 1) (orN n8 512 t)) := fun W S t => mark_any _ n8 512 t W l8 (by decide) S.cell
    have cs := CV _ s8.below
    cases t9
    all_goals (
      go_wp2_with fail
      refine cs.mono ?_
      rintro e w7 ⟨rfl, hb⟩
      have s' := s8.later hb
      clear hb c0 cs CV j0 j1 j2 j3 j4 j5 j6 j7 j8 j9 j10 j11 j12 j13 j14 j15 j16 j17 j18 j19 j20 j21 j22 j23 j24 j25 j26 j27 j28 HT HLEN
      go_wp2_with fail
      refine (mk _ s' _).mono ?_
      intro e w8 hm
      have hr := s'.mark hm
      obtain rfl := hm.out.1
      clear hm mk
      go_wp2_with fail
      go_meet
      exact hr)
  case rest =>
  have s9 := hcut
  have l9 : orN n8 512 t9 < 2048 := orN_lt l8 (by decide)
  obtain ⟨n9, hn9⟩ : ∃ n, n = orN n8 512 t9 := ⟨_, rfl⟩
  rw [← hn9] at s9 l9
  have HN9 := hide hn9
  clear hcut hn9 s8
  go_upto_region 11 with fail
  go_cut [0] (fun s0 wx => SetR w z (orN n9 1024 t10) wx)
  case first =>
    clear CK CV
    obtain ⟨j0, j1, j2, j3, j4, j5, j6, j7, j8, j9, j10, j11, j12, j13, j14, j15, j16, j17, j18, j19, j20, j21, j22, j23, j24, j25, j26, j27, j28⟩ := s9.at_.cells
    have c0 := s9.c0
    have hlt := s9.at_.lt
    have mk : ∀ W (S : SetR w z n9 W) t, Calls Tryz.prog 120 #[.pointer (some ⟨w.heap.size + 1, 0, none⟩), .int .u16 1024, .bool t] W (MarkP W (w.heap.size + 1) (orN n9 1024 t)) := fun W S t => mark_any _ n9 1024 t W l9 (by decide) S.cell
    have s' := s9
    have x : decide ((200 : Int) < (z.n : Int)) = t10 := by
      have e := HT.out.2.2.2.2.2.2.2.2.2.2
      rw [HLEN.out] at e
      cases t10 <;> simp at e ⊢ <;> omega
    clear HT HLEN X8
    go_wp2_with fail
    refine (mk _ s' _).mono ?_
    intro e w8 hm
    have hr := s'.mark hm
    obtain rfl := hm.out.1
    clear hm mk
    go_wp2_with fail
    go_meet
    exact hr
  case rest =>
  have s10 := hcut
  have l10 : orN n9 1024 t10 < 2048 := orN_lt l9 (by decide)
  obtain ⟨n10, hn10⟩ : ∃ n, n = orN n9 1024 t10 := ⟨_, rfl⟩
  rw [← hn10] at s10 l10
  have HN10 := hide hn10
  clear hcut hn10 s9
  have x0 := s10.c0
  have hb := s10.below
  have hp : SetsP w (rightF z.m) (.returned (.int .u16 n10)) wc := by
    refine ⟨n10, rfl, l10, fun i hi => ?_, hb⟩
    have e : n10 = pk11 t0 t1 t2 t3 t4 t5 false t7 t8 t9 t10 := by
      unfold pk11
      rw [show ∀ n, orN n 64 false = n from fun n => rfl, HN10.out, HN9.out, HN8.out, HN7.out, HN6.out, HN5.out, HN4.out, HN3.out, HN2.out, HN1.out]
    rw [e, pk11_sel _ _ _ _ _ _ _ _ _ _ _ i hi]
    obtain ⟨a0, a1, a2, a3, a4, a5, a6, a7, a8, a9, a10⟩ := HT.out
    rcases lt11 hi with rfl | rfl | rfl | rfl | rfl | rfl | rfl | rfl | rfl | rfl | rfl <;> first | assumption | (simp [sel11, rightF]; done)
  have HP := hide hp
  clear hp HT s10
  go_wp2
  go_ret
  exact HP.out
end Go.Proofs.YtjmkecaljkcoiaaGreatDoor
namespace Go.Proofs.YtjmkecaljkcoiaaGreatDoor
open Go.RowKit Go.Maps
set_option linter.unusedVariables false
set_option linter.unusedSimpArgs false
set_option maxRecDepth 100000 in
set_option maxHeartbeats 4000000 in
theorem check10_any (z : Mx) (B : Nat) (w : World) (t : Bool) (h : MxIn w B z) (hs : MSmall z) (hB : B ≤ w.heap.size) (hK : Kinds w) (ht : t = true ↔ MayM z.m) :
    Calls Tryz.prog 52 #[.agg #[.int .i64 z.kind, .int .u16 z.who.i, .int .u32 z.who.k, .int .u64 z.view, .int .u64 z.slot, .int .u64 z.num, .int .i64 z.hops, .int .u32 z.b.r, .int .u16 z.b.p.i, .int .u32 z.b.p.k, .int .u32 z.a.r, .int .u16 z.a.p.i, .int .u32 z.a.p.k, .bool z.has, .int .i64 z.y.kind, .int .u16 z.y.p.i, .int .u32 z.y.p.k, .int .u64 z.y.num, .int .u64 z.y.vn, .slice z.y.A z.y.n z.y.c, .int .u64 z.y.x.id, .slice z.y.x.A z.y.x.m z.y.x.c, .slice z.y.x.B z.y.x.d z.y.x.e, .slice z.y.x.C z.y.x.f z.y.x.g, .int .u64 z.x.id, .slice z.x.A z.x.m z.x.c, .slice z.x.B z.x.d z.x.e, .slice z.x.C z.x.f z.x.g, .slice z.A z.n z.c]] w fun e w' => e = .returned (.int .i64 (ckI t)) ∧ Below w.heap.size w w' := by
  have hbz : Below w.heap.size w (w.alloc (.cells #[.int .i64 z.kind, .int .u16 z.who.i, .int .u32 z.who.k, .int .u64 z.view, .int .u64 z.slot, .int .u64 z.num, .int .i64 z.hops, .int .u32 z.b.r, .int .u16 z.b.p.i, .int .u32 z.b.p.k, .int .u32 z.a.r, .int .u16 z.a.p.i, .int .u32 z.a.p.k, .bool z.has, .int .i64 z.y.kind, .int .u16 z.y.p.i, .int .u32 z.y.p.k, .int .u64 z.y.num, .int .u64 z.y.vn, .slice z.y.A z.y.n z.y.c, .int .u64 z.y.x.id, .slice z.y.x.A z.y.x.m z.y.x.c, .slice z.y.x.B z.y.x.d z.y.x.e, .slice z.y.x.C z.y.x.f z.y.x.g, .int .u64 z.x.id, .slice z.x.A z.x.m z.x.c, .slice z.x.B z.x.d z.x.e, .slice z.x.C z.x.f z.x.g, .slice z.A z.n z.c] 50)) := (Below.refl _ _).alloc (Nat.le_refl _) _
  have v0 := MAt10.mk_ w z
  have CF := fun W (hb : Below w.heap.size w W) => fieldsOf_any z W (hK.later hb)
  have CS := fun W (hb : Below w.heap.size w W) => set10_any z B W (h.below (hb.mono hB)) (Nat.le_trans hB hb.size)
  have CW := fun W (hb : Below w.heap.size w W) => wrong10_any z B W (h.below (hb.mono hB)) hs (Nat.le_trans hB hb.size)
  clear h hs hK
  obtain ⟨q, hq⟩ : ∃ q, q = bitsM z.kind z.has := ⟨_, rfl⟩
  have hq1 : q < 2048 := by rw [hq]; exact bitsM_lt _ _
  have HT := hide (And.intro ht hq)
  rw [← hq] at CF
  clear ht hq
  have hs1 : (w.alloc (.cells #[.int .i64 z.kind, .int .u16 z.who.i, .int .u32 z.who.k, .int .u64 z.view, .int .u64 z.slot, .int .u64 z.num, .int .i64 z.hops, .int .u32 z.b.r, .int .u16 z.b.p.i, .int .u32 z.b.p.k, .int .u32 z.a.r, .int .u16 z.a.p.i, .int .u32 z.a.p.k, .bool z.has, .int .i64 z.y.kind, .int .u16 z.y.p.i, .int .u32 z.y.p.k, .int .u64 z.y.num, .int .u64 z.y.vn, .slice z.y.A z.y.n z.y.c, .int .u64 z.y.x.id, .slice z.y.x.A z.y.x.m z.y.x.c, .slice z.y.x.B z.y.x.d z.y.x.e, .slice z.y.x.C z.y.x.f z.y.x.g, .int .u64 z.x.id, .slice z.x.A z.x.m z.x.c, .slice z.x.B z.x.d z.x.e, .slice z.x.C z.x.f z.x.g, .slice z.A z.n z.c] 50)).heap.size = w.heap.size + 1 := by simp
  generalize hw1 : w.alloc (.cells #[.int .i64 z.kind, .int .u16 z.who.i, .int .u32 z.who.k, .int .u64 z.view, .int .u64 z.slot, .int .u64 z.num, .int .i64 z.hops, .int .u32 z.b.r, .int .u16 z.b.p.i, .int .u32 z.b.p.k, .int .u32 z.a.r, .int .u16 z.a.p.i, .int .u32 z.a.p.k, .bool z.has, .int .i64 z.y.kind, .int .u16 z.y.p.i, .int .u32 z.y.p.k, .int .u64 z.y.num, .int .u64 z.y.vn, .slice z.y.A z.y.n z.y.c, .int .u64 z.y.x.id, .slice z.y.x.A z.y.x.m z.y.x.c, .slice z.y.x.B z.y.x.d z.y.x.e, .slice z.y.x.C z.y.x.f z.y.x.g, .int .u64 z.x.id, .slice z.x.A z.x.m z.x.c, .slice z.x.B z.x.d z.x.e, .slice z.x.C z.x.f z.x.g, .slice z.A z.n z.c] 50) = w1 at *
  have cf := CF w1 hbz
  have j0 := v0.lt
  go_enter Tryz.func52, Tryz.ntmps52
  go_wp2_with (refine wpList_load_msg z w.heap.size rfl (.tmp 1) rfl rfl v0 ?_)
  refine cf.mono ?_
  rintro e w2 ⟨rfl, hb⟩
  have hb2 := hbz.trans (hb.mono hbz.size)
  have v2 := v0.later hb
  have j2 := v2.lt
  clear cf hw1 v0 hb hs1 hbz j0
  by_cases h0 : q = 0
  · have z0 : ((q : Int) == 0) = true := by rw [beq_iff_eq]; omega
    obtain rfl : t = false := not_of_iff HT.out.1 (fun e => e.some (by
      have e2 := HT.out.2
      rw [h0] at e2
      exact e2.symm))
    clear h0 CS CW CF
    go_wp2
    go_ret
    exact ⟨rfl, hb2⟩
  have z0 : ((q : Int) == 0) = false := by rw [beq_eq_false_iff_ne]; omega
  have cs := CS w2 hb2
  unfold SetsP at cs
  go_wp2_with (first | refine wpList_load_msg z w.heap.size rfl (.tmp 1) rfl rfl v2 ?_ | refine wpList_load_msg_yes z w.heap.size rfl (.tmp 1) rfl rfl v2 ?_)
  refine cs.mono ?_
  rintro e w3 ⟨s, rfl, hs1, hsb, hb⟩
  have hb3 := hb2.trans (hb.mono hb2.size)
  have v3 := v2.later hb
  clear cs v2 hb j2
  have j3 := v3.lt
  obtain ⟨x, hx⟩ : ∃ x : Nat, x = s &&& (65535 - q) := ⟨_, rfl⟩
  have e1 := u16_andNot_nat s q (by omega) (by omega)
  rw [← hx] at e1
  have HS := hide (And.intro hsb hx)
  clear hsb hx
  by_cases h1 : x = 0
  case neg =>
    have z1 : ((x : Int) != 0) = true := by rw [bne_iff_ne]; omega
    obtain rfl : t = false := not_of_iff HT.out.1 (fun e => h1 (by
      rw [HS.out.2, HT.out.2, andNot0_iff hs1 (bitsM_lt _ _)]
      intro i hi hb
      have h2 := (e.each i hi).2
      cases hh : (bitsM z.kind z.has).testBit i
      · exact absurd (h2 hh) ((HS.out.1 i hi).1 hb)
      · rfl))
    clear h1 CS CW CF
    go_wp2
    go_ret
    exact ⟨rfl, hb3⟩
  have z1 : ((x : Int) != 0) = false := by rw [h1]; rfl
  have cs := CW w3 hb3
  unfold SetsP at cs
  go_wp2_with (first | refine wpList_load_msg z w.heap.size rfl (.tmp 1) rfl rfl v3 ?_ | refine wpList_load_msg_yes z w.heap.size rfl (.tmp 1) rfl rfl v3 ?_)
  refine cs.mono ?_
  rintro e w4 ⟨u, rfl, hu1, hub, hb⟩
  have hb4 := hb3.trans (hb.mono hb3.size)
  clear cs v3 hb j3
  obtain ⟨y, hy⟩ : ∃ y : Nat, y = u &&& q := ⟨_, rfl⟩
  have e2 := u16_and_nat u q (by omega) (by omega)
  rw [← hy] at e2
  have hm := may_bits (m := z.m) hs1 hu1 HS.out.1 hub
  have HU := hide (And.intro hub (And.intro hy hm))
  clear hub hy hm
  by_cases h2 : y = 0
  · have z2 : ((y : Int) != 0) = false := by rw [h2]; rfl
    obtain rfl : t = true := HT.out.1.2 (HU.out.2.2.2 ⟨by
      have e := HT.out.2
      rw [← show q = bitsM z.m.kind z.m.has from e]
      exact h0, by
      rw [← show q = bitsM z.m.kind z.m.has from HT.out.2, ← HS.out.2]
      exact h1, by
      rw [← show q = bitsM z.m.kind z.m.has from HT.out.2, ← HU.out.2.1]
      exact h2⟩)
    clear h0 h1 h2 CS CW CF
    go_wp2
    go_ret
    exact ⟨rfl, hb4⟩
  · have z2 : ((y : Int) != 0) = true := by rw [bne_iff_ne]; omega
    obtain rfl : t = false := not_of_iff HT.out.1 (fun e => h2 (by
      have e2 := (HU.out.2.2.1 e).2.2
      rw [← show q = bitsM z.m.kind z.m.has from HT.out.2, ← HU.out.2.1] at e2
      exact e2))
    clear h0 h1 h2 CS CW CF
    go_wp2
    go_ret
    exact ⟨rfl, hb4⟩
end Go.Proofs.YtjmkecaljkcoiaaGreatDoor
