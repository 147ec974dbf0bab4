import Derived.Deep.DeepCutAuto
import Derived.Test.YtjmkecaljkcoiaaGreatDoorQViewT
namespace Go.Proofs.YtjmkecaljkcoiaaGreatDoor
open Go.RowKit Go.Maps
set_option linter.unusedVariables false
set_option linter.unusedSimpArgs false
theorem pr_def {p : Pr} : p = default ↔ p.i = 0 ∧ p.k = 0 := ⟨fun h => by rw [h]; exact ⟨rfl, rfl⟩, fun h => Pr.ext h.1 h.2⟩
theorem bl_def {b : Bl} : b = default ↔ b.r = 0 ∧ b.p.i = 0 ∧ b.p.k = 0 := ⟨fun h => by rw [h]; exact ⟨rfl, rfl, rfl⟩, fun h => Bl.ext h.1 (Pr.ext h.2.1 h.2.2)⟩
structure SetR (w : World) (z : Mx) (n : Nat) (W : World) : Prop where
  at_ : MAt10 W w.heap.size z
  cell : W.heap[w.heap.size + 1]? = some (.cells #[.int .u16 n] 108)
  below : Below w.heap.size w W
theorem SetR.mark {w : World} {z : Mx} {n k : Nat} {W W' : World} {e : Ending} (h : SetR w z n W) (hm : MarkP W (w.heap.size + 1) k e W') : SetR w z k W' :=
  ⟨h.at_.turn hm.out.2.1 (by omega) (by simp), hm.out.2.2, h.below.trans (hm.out.2.1.below h.below.size (by omega) (fun g hg => by cases hg))⟩
theorem SetR.later {w : World} {z : Mx} {n : Nat} {W W' : World} (h : SetR w z n W) (hb : Below W.heap.size W W') : SetR w z n W' :=
  ⟨h.at_.later hb, (hb.block _ (lt_of_heap h.cell)).trans h.cell, h.below.trans (hb.mono h.below.size)⟩
theorem SetR.start (w : World) (z : Mx) : SetR w z 0 ((w.alloc (.cells #[.int .i64 z.kind, .int .u16 z.who.i, .int .u32 z.who.k, .int .u64 z.view, .int .u64 z.slot, .int .u64 z.num, .int .i64 z.hops, .int .u32 z.b.r, .int .u16 z.b.p.i, .int .u32 z.b.p.k, .int .u32 z.a.r, .int .u16 z.a.p.i, .int .u32 z.a.p.k, .bool z.has, .int .i64 z.y.kind, .int .u16 z.y.p.i, .int .u32 z.y.p.k, .int .u64 z.y.num, .int .u64 z.y.vn, .slice z.y.A z.y.n z.y.c, .int .u64 z.y.x.id, .slice z.y.x.A z.y.x.m z.y.x.c, .slice z.y.x.B z.y.x.d z.y.x.e, .slice z.y.x.C z.y.x.f z.y.x.g, .int .u64 z.x.id, .slice z.x.A z.x.m z.x.c, .slice z.x.B z.x.d z.x.e, .slice z.x.C z.x.f z.x.g, .slice z.A z.n z.c] 50)).alloc (.cells #[.int .u16 0] 108)) := by
  refine ⟨(MAt10.mk_ w z).alloc _, ?_, ((Below.refl _ _).alloc (Nat.le_refl _) _).alloc (by simp) _⟩
  have := heap_alloc_new (w.alloc (.cells #[.int .i64 z.kind, .int .u16 z.who.i, .int .u32 z.who.k, .int .u64 z.view, .int .u64 z.slot, .int .u64 z.num, .int .i64 z.hops, .int .u32 z.b.r, .int .u16 z.b.p.i, .int .u32 z.b.p.k, .int .u32 z.a.r, .int .u16 z.a.p.i, .int .u32 z.a.p.k, .bool z.has, .int .i64 z.y.kind, .int .u16 z.y.p.i, .int .u32 z.y.p.k, .int .u64 z.y.num, .int .u64 z.y.vn, .slice z.y.A z.y.n z.y.c, .int .u64 z.y.x.id, .slice z.y.x.A z.y.x.m z.y.x.c, .slice z.y.x.B z.y.x.d z.y.x.e, .slice z.y.x.C z.y.x.f z.y.x.g, .int .u64 z.x.id, .slice z.x.A z.x.m z.x.c, .slice z.x.B z.x.d z.x.e, .slice z.x.C z.x.f z.x.g, .slice z.A z.n z.c] 50)) (.cells #[.int .u16 0] 108)
  rw [World.size_alloc] at this
  exact this
theorem SetR.c0 {w : World} {z : Mx} {n : Nat} {W : World} (h : SetR w z n W) : W.cell? ⟨w.heap.size + 1, 0, none⟩ = some (.int .u16 n) := cell_of_row _ _ 0 _ _ (0, 0) h.cell
def SetsP (w : World) (p : Nat → Prop) (e : Ending) (w' : World) : Prop := ∃ s : Nat, e = .returned (.int .u16 s) ∧ s < 2048 ∧ (∀ i, i < 11 → (s.testBit i = true ↔ ¬ p i)) ∧ Below w.heap.size w w'
set_option maxRecDepth 100000 in
set_option maxHeartbeats 4000000 in
theorem set10_any (z : Mx) (B : Nat) (w : World) (h : MxIn w B z) (hB : B ≤ w.heap.size) :
    Calls Tryz.prog 112 #[.agg #[.int .i64 z.kind, .int .u16 z.who.i, .int .u32 z.who.k, .int .u64 z.view, .int .u64 z.slot, .int .u64 z.num, .int .i64 z.hops, .int .u32 z.b.r, .int .u16 z.b.p.i, .int .u32 z.b.p.k, .int .u32 z.a.r, .int .u16 z.a.p.i, .int .u32 z.a.p.k, .bool z.has, .int .i64 z.y.kind, .int .u16 z.y.p.i, .int .u32 z.y.p.k, .int .u64 z.y.num, .int .u64 z.y.vn, .slice z.y.A z.y.n z.y.c, .int .u64 z.y.x.id, .slice z.y.x.A z.y.x.m z.y.x.c, .slice z.y.x.B z.y.x.d z.y.x.e, .slice z.y.x.C z.y.x.f z.y.x.g, .int .u64 z.x.id, .slice z.x.A z.x.m z.x.c, .slice z.x.B z.x.d z.x.e, .slice z.x.C z.x.f z.x.g, .slice z.A z.n z.c]] w (SetsP w (zeroF z.m)) := by
  obtain ⟨t0, ht0⟩ := bool_of (¬ (z.who = default))
  obtain ⟨t1, ht1⟩ := bool_of (¬ (z.view = 0))
  obtain ⟨t2, ht2⟩ := bool_of (¬ (z.slot = 0))
  obtain ⟨t3, ht3⟩ := bool_of (¬ (z.b = default))
  obtain ⟨t4, ht4⟩ := bool_of (¬ (z.num = 0))
  obtain ⟨t5, ht5⟩ := bool_of (¬ (z.hops = 0))
  obtain ⟨t6, ht6⟩ := bool_of (¬ (z.has = false))
  obtain ⟨t7, ht7⟩ := bool_of (¬ (z.a = default))
  obtain ⟨t8, ht8⟩ := bool_of (¬ (z.y.m = zC 0 noV))
  obtain ⟨t9, ht9⟩ := bool_of (¬ (z.x.v = noV))
  obtain ⟨t10, ht10⟩ := bool_of (¬ (z.l = []))
  have HT := hide (show (t0 = true ↔ ¬ (z.who = default)) ∧ (t1 = true ↔ ¬ (z.view = 0)) ∧ (t2 = true ↔ ¬ (z.slot = 0)) ∧ (t3 = true ↔ ¬ (z.b = default)) ∧ (t4 = true ↔ ¬ (z.num = 0)) ∧ (t5 = true ↔ ¬ (z.hops = 0)) ∧ (t6 = true ↔ ¬ (z.has = false)) ∧ (t7 = true ↔ ¬ (z.a = default)) ∧ (t8 = true ↔ ¬ (z.y.m = zC 0 noV)) ∧ (t9 = true ↔ ¬ (z.x.v = noV)) ∧ (t10 = true ↔ ¬ (z.l = [])) from ⟨ht0, ht1, ht2, ht3, ht4, ht5, ht6, ht7, ht8, ht9, ht10⟩)
  clear ht0 ht1 ht2 ht3 ht4 ht5 ht6 ht7 ht8 ht9 ht10
  have s0 := SetR.start w z
  have CS := fun W (hb : Below w.heap.size w W) => csame_any z.y (zX 0 zeroX) B _ W (!t8) (h.cm.below (hb.mono hB)) (zX_in (by decide) (by decide) (zeroX_in W)) (Nat.le_trans hB hb.size) (Nat.le_refl _) (by
    have e := HT.out.2.2.2.2.2.2.2.2.1
    cases t8 <;> simp at e ⊢
    · exact e
    · exact e)
  have VS := fun W (hb : Below w.heap.size w W) => vsame_any z.x zeroX B _ W (!t9) (h.vw.below (hb.mono hB)) (zeroX_in W) (Nat.le_trans hB hb.size) (Nat.le_refl _) (by
    have e := HT.out.2.2.2.2.2.2.2.2.2.1
    cases t9 <;> simp at e ⊢
    · exact e
    · exact e)
  have hlen := h.bs.len
  have HLEN := hide hlen
  clear h hlen
  have hs1 : (w.alloc (.cells #[.int .i64 z.kind, .int .u16 z.who.i, .int .u32 z.who.k, .int .u64 z.view, .int .u64 z.slot, .int .u64 z.num, .int .i64 z.hops, .int .u32 z.b.r, .int .u16 z.b.p.i, .int .u32 z.b.p.k, .int .u32 z.a.r, .int .u16 z.a.p.i, .int .u32 z.a.p.k, .bool z.has, .int .i64 z.y.kind, .int .u16 z.y.p.i, .int .u32 z.y.p.k, .int .u64 z.y.num, .int .u64 z.y.vn, .slice z.y.A z.y.n z.y.c, .int .u64 z.y.x.id, .slice z.y.x.A z.y.x.m z.y.x.c, .slice z.y.x.B z.y.x.d z.y.x.e, .slice z.y.x.C z.y.x.f z.y.x.g, .int .u64 z.x.id, .slice z.x.A z.x.m z.x.c, .slice z.x.B z.x.d z.x.e, .slice z.x.C z.x.f z.x.g, .slice z.A z.n z.c] 50)).heap.size = w.heap.size + 1 := by simp
  generalize hw1 : ((w.alloc (.cells #[.int .i64 z.kind, .int .u16 z.who.i, .int .u32 z.who.k, .int .u64 z.view, .int .u64 z.slot, .int .u64 z.num, .int .i64 z.hops, .int .u32 z.b.r, .int .u16 z.b.p.i, .int .u32 z.b.p.k, .int .u32 z.a.r, .int .u16 z.a.p.i, .int .u32 z.a.p.k, .bool z.has, .int .i64 z.y.kind, .int .u16 z.y.p.i, .int .u32 z.y.p.k, .int .u64 z.y.num, .int .u64 z.y.vn, .slice z.y.A z.y.n z.y.c, .int .u64 z.y.x.id, .slice z.y.x.A z.y.x.m z.y.x.c, .slice z.y.x.B z.y.x.d z.y.x.e, .slice z.y.x.C z.y.x.f z.y.x.g, .int .u64 z.x.id, .slice z.x.A z.x.m z.x.c, .slice z.x.B z.x.d z.x.e, .slice z.x.C z.x.f z.x.g, .slice z.A z.n z.c] 50)).alloc (.cells #[.int .u16 0] 108)) = W0 at *
  go_enter Tryz.func112, Tryz.ntmps112
  go_upto_region 2 with fail
  go_cut [0] (fun s0 wx => SetR w z (orN 0 1 t0) wx)
  case first =>
    clear CS VS
    obtain ⟨j0, j1, j2, j3, j4, j5, j6, j7, j8, j9, j10, j11, j12, j13, j14, j15, j16, j17, j18, j19, j20, j21, j22, j23, j24, j25, j26, j27, j28⟩ := s0.at_.cells
    have c0 := s0.c0
    have hlt := s0.at_.lt
    have mk : ∀ t, Calls Tryz.prog 120 #[.pointer (some ⟨w.heap.size + 1, 0, none⟩), .int .u16 1, .bool t] W0 (MarkP W0 (w.heap.size + 1) (orN 0 1 t)) := fun t => mark_any _ 0 1 t W0 (by decide) (by decide) s0.cell
    go_wp2_with fail
    all_goals (
      refine (mk _).mono ?_
      intro e w8 hm
      have hr := s0.mark hm
      obtain rfl := hm.out.1
      clear hm mk
      go_wp2_with fail
      go_meet
      first | exact hr | ((obtain rfl : t0 = true := HT.out.1.2 (fun e => by have e2 := pr_def.1 e; omega)); exact hr) | (obtain rfl : t0 = false := (by cases t0; rfl; exact absurd (pr_def.2 ⟨by omega, by omega⟩) (HT.out.1.1 rfl)); exact hr))
  case rest =>
  have s1 := hcut
  have l1 : orN 0 1 t0 < 2048 := orN_lt (by decide) (by decide)
  obtain ⟨n1, hn1⟩ : ∃ n, n = orN 0 1 t0 := ⟨_, rfl⟩
  rw [← hn1] at s1 l1
  have HN1 := hide hn1
  clear hcut hn1 s0
  go_upto_region 3 with fail
  go_cut [0] (fun s0 wx => SetR w z (orN n1 2 t1) wx)
  case first =>
    clear CS VS
    obtain ⟨j0, j1, j2, j3, j4, j5, j6, j7, j8, j9, j10, j11, j12, j13, j14, j15, j16, j17, j18, j19, j20, j21, j22, j23, j24, j25, j26, j27, j28⟩ := s1.at_.cells
    have c0 := s1.c0
    have hlt := s1.at_.lt
    have mk : ∀ W (S : SetR w z n1 W) t, Calls Tryz.prog 120 #[.pointer (some ⟨w.heap.size + 1, 0, none⟩), .int .u16 2, .bool t] W (MarkP W (w.heap.size + 1) (orN n1 2 t)) := fun W S t => mark_any _ n1 2 t W l1 (by decide) S.cell
    have x : ((z.view : Int) != 0) = t1 := by
      have e := HT.out.2.1
      cases t1 <;> simp at e ⊢ <;> omega
    clear HT HLEN
    go_wp2_with fail
    all_goals (
      refine (mk _ s1 _).mono ?_
      intro e w8 hm
      have hr := s1.mark hm
      obtain rfl := hm.out.1
      clear hm mk
      go_wp2_with fail
      go_meet
      first | exact hr | (fail))
  case rest =>
  have s2 := hcut
  have l2 : orN n1 2 t1 < 2048 := orN_lt l1 (by decide)
  obtain ⟨n2, hn2⟩ : ∃ n, n = orN n1 2 t1 := ⟨_, rfl⟩
  rw [← hn2] at s2 l2
  have HN2 := hide hn2
  clear hcut hn2 s1
  go_upto_region 4 with fail
  go_cut [0] (fun s0 wx => SetR w z (orN n2 4 t2) wx)
  case first =>
    clear CS VS
    obtain ⟨j0, j1, j2, j3, j4, j5, j6, j7, j8, j9, j10, j11, j12, j13, j14, j15, j16, j17, j18, j19, j20, j21, j22, j23, j24, j25, j26, j27, j28⟩ := s2.at_.cells
    have c0 := s2.c0
    have hlt := s2.at_.lt
    have mk : ∀ W (S : SetR w z n2 W) t, Calls Tryz.prog 120 #[.pointer (some ⟨w.heap.size + 1, 0, none⟩), .int .u16 4, .bool t] W (MarkP W (w.heap.size + 1) (orN n2 4 t)) := fun W S t => mark_any _ n2 4 t W l2 (by decide) S.cell
    have x : ((z.slot : Int) != 0) = t2 := by
      have e := HT.out.2.2.1
      cases t2 <;> simp at e ⊢ <;> omega
    clear HT HLEN
    go_wp2_with fail
    all_goals (
      refine (mk _ s2 _).mono ?_
      intro e w8 hm
      have hr := s2.mark hm
      obtain rfl := hm.out.1
      clear hm mk
      go_wp2_with fail
      go_meet
      first | exact hr | (fail))
  case rest =>
  have s3 := hcut
  have l3 : orN n2 4 t2 < 2048 := orN_lt l2 (by decide)
  obtain ⟨n3, hn3⟩ : ∃ n, n = orN n2 4 t2 := ⟨_, rfl⟩
  rw [← hn3] at s3 l3
  have HN3 := hide hn3
  clear hcut hn3 s2
  go_upto_region 5 with fail
  go_cut [0] (fun s0 wx => SetR w z (orN n3 8 t3) wx)
  case first =>
    clear CS VS
    obtain ⟨j0, j1, j2, j3, j4, j5, j6, j7, j8, j9, j10, j11, j12, j13, j14, j15, j16, j17, j18, j19, j20, j21, j22, j23, j24, j25, j26, j27, j28⟩ := s3.at_.cells
    have c0 := s3.c0
    have hlt := s3.at_.lt
    have mk : ∀ W (S : SetR w z n3 W) t, Calls Tryz.prog 120 #[.pointer (some ⟨w.heap.size + 1, 0, none⟩), .int .u16 8, .bool t] W (MarkP W (w.heap.size + 1) (orN n3 8 t)) := fun W S t => mark_any _ n3 8 t W l3 (by decide) S.cell
    go_wp2_with fail
    all_goals (
      refine (mk _ s3 _).mono ?_
      intro e w8 hm
      have hr := s3.mark hm
      obtain rfl := hm.out.1
      clear hm mk
      go_wp2_with fail
      go_meet
      first | exact hr | ((obtain rfl : t3 = true := HT.out.2.2.2.1.2 (fun e => by have e2 := bl_def.1 e; omega)); exact hr) | (obtain rfl : t3 = false := (by cases t3; rfl; exact absurd (bl_def.2 ⟨by omega, by omega, by omega⟩) (HT.out.2.2.2.1.1 rfl)); exact hr))
  case rest =>
  have s4 := hcut
  have l4 : orN n3 8 t3 < 2048 := orN_lt l3 (by decide)
  obtain ⟨n4, hn4⟩ : ∃ n, n = orN n3 8 t3 := ⟨_, rfl⟩
  rw [← hn4] at s4 l4
  have HN4 := hide hn4
  clear hcut hn4 s3
  go_upto_region 6 with fail
  go_cut [0] (fun s0 wx => SetR w z (orN n4 16 t4) wx)
  case first =>
    clear CS VS
    obtain ⟨j0, j1, j2, j3, j4, j5, j6, j7, j8, j9, j10, j11, j12, j13, j14, j15, j16, j17, j18, j19, j20, j21, j22, j23, j24, j25, j26, j27, j28⟩ := s4.at_.cells
    have c0 := s4.c0
    have hlt := s4.at_.lt
    have mk : ∀ W (S : SetR w z n4 W) t, Calls Tryz.prog 120 #[.pointer (some ⟨w.heap.size + 1, 0, none⟩), .int .u16 16, .bool t] W (MarkP W (w.heap.size + 1) (orN n4 16 t)) := fun W S t => mark_any _ n4 16 t W l4 (by decide) S.cell
    have x : ((z.num : Int) != 0) = t4 := by
      have e := HT.out.2.2.2.2.1
      cases t4 <;> simp at e ⊢ <;> omega
    clear HT HLEN
    go_wp2_with fail
    all_goals (
      refine (mk _ s4 _).mono ?_
      intro e w8 hm
      have hr := s4.mark hm
      obtain rfl := hm.out.1
      clear hm mk
      go_wp2_with fail
      go_meet
      first | exact hr | (fail))
  case rest =>
  have s5 := hcut
  have l5 : orN n4 16 t4 < 2048 := orN_lt l4 (by decide)
  obtain ⟨n5, hn5⟩ : ∃ n, n = orN n4 16 t4 := ⟨_, rfl⟩
  rw [← hn5] at s5 l5
  have HN5 := hide hn5
  clear hcut hn5 s4
  go_upto_region 7 with fail
  go_cut [0] (fun s0 wx => SetR w z (orN n5 32 t5) wx)
  case first =>
    clear CS VS
    obtain ⟨j0, j1, j2, j3, j4, j5, j6, j7, j8, j9, j10, j11, j12, j13, j14, j15, j16, j17, j18, j19, j20, j21, j22, j23, j24, j25, j26, j27, j28⟩ := s5.at_.cells
    have c0 := s5.c0
    have hlt := s5.at_.lt
    have mk : ∀ W (S : SetR w z n5 W) t, Calls Tryz.prog 120 #[.pointer (some ⟨w.heap.size + 1, 0, none⟩), .int .u16 32, .bool t] W (MarkP W (w.heap.size + 1) (orN n5 32 t)) := fun W S t => mark_any _ n5 32 t W l5 (by decide) S.cell
    have x : (z.hops != 0) = t5 := by
      have e := HT.out.2.2.2.2.2.1
      cases t5 <;> simp at e ⊢ <;> omega
    clear HT HLEN
    go_wp2_with fail
    all_goals (
      refine (mk _ s5 _).mono ?_
      intro e w8 hm
      have hr := s5.mark hm
      obtain rfl := hm.out.1
      clear hm mk
      go_wp2_with fail
      go_meet
      first | exact hr | (fail))
  case rest =>
  have s6 := hcut
  have l6 : orN n5 32 t5 < 2048 := orN_lt l5 (by decide)
  obtain ⟨n6, hn6⟩ : ∃ n, n = orN n5 32 t5 := ⟨_, rfl⟩
  rw [← hn6] at s6 l6
  have HN6 := hide hn6
  clear hcut hn6 s5
  go_upto_region 8 with fail
  go_cut [0] (fun s0 wx => SetR w z (orN n6 64 t6) wx)
  case first =>
    clear CS VS
    obtain ⟨j0, j1, j2, j3, j4, j5, j6, j7, j8, j9, j10, j11, j12, j13, j14, j15, j16, j17, j18, j19, j20, j21, j22, j23, j24, j25, j26, j27, j28⟩ := s6.at_.cells
    have c0 := s6.c0
    have hlt := s6.at_.lt
    have mk : ∀ W (S : SetR w z n6 W) t, Calls Tryz.prog 120 #[.pointer (some ⟨w.heap.size + 1, 0, none⟩), .int .u16 64, .bool t] W (MarkP W (w.heap.size + 1) (orN n6 64 t)) := fun W S t => mark_any _ n6 64 t W l6 (by decide) S.cell
    have e := HT.out.2.2.2.2.2.2.1
    have x : z.has = t6 := by cases t6 <;> simp at e ⊢ <;> exact e
    rw [x] at j13
    clear e
    go_wp2_with fail
    all_goals (
      refine (mk _ s6 _).mono ?_
      intro e w8 hm
      have hr := s6.mark hm
      obtain rfl := hm.out.1
      clear hm mk
      go_wp2_with fail
      go_meet
      first | exact hr | (fail))
  case rest =>
  have s7 := hcut
  have l7 : orN n6 64 t6 < 2048 := orN_lt l6 (by decide)
  obtain ⟨n7, hn7⟩ : ∃ n, n = orN n6 64 t6 := ⟨_, rfl⟩
  rw [← hn7] at s7 l7
  have HN7 := hide hn7
  clear hcut hn7 s6
  go_upto_region 9 with fail
  go_cut [0] (fun s0 wx => SetR w z (orN n7 128 t7) wx)
  case first =>
    clear CS VS
    obtain ⟨j0, j1, j2, j3, j4, j5, j6, j7, j8, j9, j10, j11, j12, j13, j14, j15, j16, j17, j18, j19, j20, j21, j22, j23, j24, j25, j26, j27, j28⟩ := s7.at_.cells
    have c0 := s7.c0
    have hlt := s7.at_.lt
    have mk : ∀ W (S : SetR w z n7 W) t, Calls Tryz.prog 120 #[.pointer (some ⟨w.heap.size + 1, 0, none⟩), .int .u16 128, .bool t] W (MarkP W (w.heap.size + 1) (orN n7 128 t)) := fun W S t => mark_any _ n7 128 t W l7 (by decide) S.cell
    go_wp2_with fail
    all_goals (
      refine (mk _ s7 _).mono ?_
      intro e w8 hm
      have hr := s7.mark hm
      obtain rfl := hm.out.1
      clear hm mk
      go_wp2_with fail
      go_meet
      first | exact hr | ((obtain rfl : t7 = true := HT.out.2.2.2.2.2.2.2.1.2 (fun e => by have e2 := bl_def.1 e; omega)); exact hr) | (obtain rfl : t7 = false := (by cases t7; rfl; exact absurd (bl_def.2 ⟨by omega, by omega, by omega⟩) (HT.out.2.2.2.2.2.2.2.1.1 rfl)); exact hr))
  case rest =>
  have s8 := hcut
  have l8 : orN n7 128 t7 < 2048 := orN_lt l7 (by decide)
  obtain ⟨n8, hn8⟩ : ∃ n, n = orN n7 128 t7 := ⟨_, rfl⟩
  rw [← hn8] at s8 l8
  have HN8 := hide hn8
  clear hcut hn8 s7
  go_upto_region 10 with fail
  go_cut [0] (fun s0 wx => SetR w z (orN n8 256 t8) wx)
  case first =>
    clear VS
    obtain ⟨j0, j1, j2, j3, j4, j5, j6, j7, j8, j9, j10, j11, j12, j13, j14, j15, j16, j17, j18, j19, j20, j21, j22, j23, j24, j25, j26, j27, j28⟩ := s8.at_.cells
    have c0 := s8.c0
    have hlt := s8.at_.lt
    have mk : ∀ W (S : SetR w z n8 W) t, Calls Tryz.prog 120 #[.pointer (some ⟨w.heap.size + 1, 0, none⟩), .int .u16 256, .bool t] W (MarkP W (w.heap.size + 1) (orN n8 256 t)) := fun W S t => mark_any _ n8 256 t W l8 (by decide) S.cell
    have cs := CS _ s8.below
    go_wp2_with fail
    refine cs.mono ?_
    rintro e w7 ⟨rfl, hb⟩
    have s' := s8.later hb
    have nn : (!!t8) = t8 := Bool.not_not _
    clear cs hb CS c0 j0 j1 j2 j3 j4 j5 j6 j7 j8 j9 j10 j11 j12 j13 j14 j15 j16 j17 j18 j19 j20 j21 j22 j23 j24 j25 j26 j27 j28
    go_wp2_with fail
    refine (mk _ s' _).mono ?_
    intro e w8 hm
    have hr := s'.mark hm
    obtain rfl := hm.out.1
    clear hm mk
    go_wp2_with fail
    go_meet
    exact hr
  case rest =>
  have s9 := hcut
  have l9 : orN n8 256 t8 < 2048 := orN_lt l8 (by decide)
  obtain ⟨n9, hn9⟩ : ∃ n, n = orN n8 256 t8 := ⟨_, rfl⟩
  rw [← hn9] at s9 l9
  have HN9 := hide hn9
  clear hcut hn9 s8
  go_upto_region 11 with fail
  go_cut [0] (fun s0 wx => SetR w z (orN n9 512 t9) wx)
  case first =>
    clear CS
    obtain ⟨j0, j1, j2, j3, j4, j5, j6, j7, j8, j9, j10, j11, j12, j13, j14, j15, j16, j17, j18, j19, j20, j21, j22, j23, j24, j25, j26, j27, j28⟩ := s9.at_.cells
    have c0 := s9.c0
    have hlt := s9.at_.lt
    have mk : ∀ W (S : SetR w z n9 W) t, Calls Tryz.prog 120 #[.pointer (some ⟨w.heap.size + 1, 0, none⟩), .int .u16 512, .bool t] W (MarkP W (w.heap.size + 1) (orN n9 512 t)) := fun W S t => mark_any _ n9 512 t W l9 (by decide) S.cell
    have cs := VS _ s9.below
    go_wp2_with fail
    refine cs.mono ?_
    rintro e w7 ⟨rfl, hb⟩
    have s' := s9.later hb
    have nn : (!!t9) = t9 := Bool.not_not _
    clear cs hb VS c0 j0 j1 j2 j3 j4 j5 j6 j7 j8 j9 j10 j11 j12 j13 j14 j15 j16 j17 j18 j19 j20 j21 j22 j23 j24 j25 j26 j27 j28
    go_wp2_with fail
    refine (mk _ s' _).mono ?_
    intro e w8 hm
    have hr := s'.mark hm
    obtain rfl := hm.out.1
    clear hm mk
    go_wp2_with fail
    go_meet
    exact hr
  case rest =>
  have s10 := hcut
  have l10 : orN n9 512 t9 < 2048 := orN_lt l9 (by decide)
  obtain ⟨n10, hn10⟩ : ∃ n, n = orN n9 512 t9 := ⟨_, rfl⟩
  rw [← hn10] at s10 l10
  have HN10 := hide hn10
  clear hcut hn10 s9
  go_upto_region 12 with fail
  go_cut [0] (fun s0 wx => SetR w z (orN n10 1024 t10) wx)
  case first =>
    clear CS VS
    obtain ⟨j0, j1, j2, j3, j4, j5, j6, j7, j8, j9, j10, j11, j12, j13, j14, j15, j16, j17, j18, j19, j20, j21, j22, j23, j24, j25, j26, j27, j28⟩ := s10.at_.cells
    have c0 := s10.c0
    have hlt := s10.at_.lt
    have mk : ∀ W (S : SetR w z n10 W) t, Calls Tryz.prog 120 #[.pointer (some ⟨w.heap.size + 1, 0, none⟩), .int .u16 1024, .bool t] W (MarkP W (w.heap.size + 1) (orN n10 1024 t)) := fun W S t => mark_any _ n10 1024 t W l10 (by decide) S.cell
    have x : ((z.n : Int) != 0) = t10 := by
      have e := HT.out.2.2.2.2.2.2.2.2.2.2
      have e2 := HLEN.out
      cases hl : z.l
      · rw [hl] at e e2; simp at e e2; rw [e, ← e2]; rfl
      · rw [hl] at e e2; simp at e e2; rw [e, bne_iff_ne]; omega
    clear HT HLEN
    go_wp2_with fail
    all_goals (
      refine (mk _ s10 _).mono ?_
      intro e w8 hm
      have hr := s10.mark hm
      obtain rfl := hm.out.1
      clear hm mk
      go_wp2_with fail
      go_meet
      first | exact hr | (fail))
  case rest =>
  have s11 := hcut
  have l11 : orN n10 1024 t10 < 2048 := orN_lt l10 (by decide)
  obtain ⟨n11, hn11⟩ : ∃ n, n = orN n10 1024 t10 := ⟨_, rfl⟩
  rw [← hn11] at s11 l11
  have HN11 := hide hn11
  clear hcut hn11 s10
  have x0 := s11.c0
  have hb := s11.below
  have hp : SetsP w (zeroF z.m) (.returned (.int .u16 n11)) wc := by
    refine ⟨n11, rfl, l11, fun i hi => ?_, hb⟩
    have e : n11 = pk11 t0 t1 t2 t3 t4 t5 t6 t7 t8 t9 t10 := by
      unfold pk11
      rw [HN11.out, HN10.out, HN9.out, HN8.out, HN7.out, HN6.out, HN5.out, HN4.out, HN3.out, HN2.out, HN1.out]
    rw [e, pk11_sel _ _ _ _ _ _ _ _ _ _ _ i hi]
    obtain ⟨a0, a1, a2, a3, a4, a5, a6, a7, a8, a9, a10⟩ := HT.out
    rcases lt11 hi with rfl | rfl | rfl | rfl | rfl | rfl | rfl | rfl | rfl | rfl | rfl <;> assumption
  have HP := hide hp
  clear hp HT s11
  go_wp2
  go_ret
  exact HP.out
end Go.Proofs.YtjmkecaljkcoiaaGreatDoor
