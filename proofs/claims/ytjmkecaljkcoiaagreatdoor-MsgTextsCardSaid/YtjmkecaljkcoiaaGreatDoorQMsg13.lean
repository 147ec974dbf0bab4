import Derived.Test.YtjmkecaljkcoiaaGreatDoorQOpenMg
import Derived.Test.YtjmkecaljkcoiaaGreatDoorQCmd1
import Derived.Test.YtjmkecaljkcoiaaGreatDoorQCmd6
namespace Go.Proofs.YtjmkecaljkcoiaaGreatDoor
open Go.RowKit Go.Maps
set_option linter.unusedVariables false
set_option linter.unusedSimpArgs false
theorem ms_eq (a b : Ms) : a = b ↔ a.kind = b.kind ∧ a.who.i = b.who.i ∧ a.who.k = b.who.k ∧ a.view = b.view ∧ a.slot = b.slot ∧ a.num = b.num ∧ a.hops = b.hops ∧ a.b.r = b.b.r ∧ a.b.p.i = b.b.p.i ∧ a.b.p.k = b.b.p.k ∧ a.a.r = b.a.r ∧ a.a.p.i = b.a.p.i ∧ a.a.p.k = b.a.p.k ∧ a.has = b.has ∧ a.c = b.c ∧ a.v = b.v ∧ a.d = b.d := by
  constructor
  · intro h
    subst h
    exact ⟨rfl, rfl, rfl, rfl, rfl, rfl, rfl, rfl, rfl, rfl, rfl, rfl, rfl, rfl, rfl, rfl, rfl⟩
  · rintro ⟨h0, h1, h2, h3, h4, h5, h6, h7, h8, h9, h10, h11, h12, h13, h14, h15, h16⟩
    have e1 : a.who = b.who := Pr.ext h1 h2
    have e2 : a.b = b.b := Bl.ext h7 (Pr.ext h8 h9)
    have e3 : a.a = b.a := Bl.ext h10 (Pr.ext h11 h12)
    cases a; cases b
    simp only at h0 h3 h4 h5 h6 h13 h14 h15 h16 e1 e2 e3
    subst h0 h3 h4 h5 h6 h13 h14 h15 h16 e1 e2 e3
    rfl
set_option maxRecDepth 100000 in
set_option maxHeartbeats 8000000 in
theorem rmsame_any (z1 z2 : Mx) (B B' : Nat) (w : World) (t : Bool) (h : MxIn w B z1) (h' : MxIn w B' z2) (hB : B ≤ w.heap.size) (hB' : B' ≤ w.heap.size) (ht : t = true ↔ z1.m = z2.m) :
    Calls Tryz.prog 18 #[.agg #[.int .i64 z1.kind, .int .u16 z1.who.i, .int .u32 z1.who.k, .int .u64 z1.view, .int .u64 z1.slot, .int .u64 z1.num, .int .i64 z1.hops, .int .u32 z1.b.r, .int .u16 z1.b.p.i, .int .u32 z1.b.p.k, .int .u32 z1.a.r, .int .u16 z1.a.p.i, .int .u32 z1.a.p.k, .bool z1.has, .int .i64 z1.y.kind, .int .u16 z1.y.p.i, .int .u32 z1.y.p.k, .int .u64 z1.y.num, .int .u64 z1.y.vn, .slice z1.y.A z1.y.n z1.y.c, .int .u64 z1.y.x.id, .slice z1.y.x.A z1.y.x.m z1.y.x.c, .slice z1.y.x.B z1.y.x.d z1.y.x.e, .slice z1.y.x.C z1.y.x.f z1.y.x.g, .int .u64 z1.x.id, .slice z1.x.A z1.x.m z1.x.c, .slice z1.x.B z1.x.d z1.x.e, .slice z1.x.C z1.x.f z1.x.g, .slice z1.A z1.n z1.c], .agg #[.int .i64 z2.kind, .int .u16 z2.who.i, .int .u32 z2.who.k, .int .u64 z2.view, .int .u64 z2.slot, .int .u64 z2.num, .int .i64 z2.hops, .int .u32 z2.b.r, .int .u16 z2.b.p.i, .int .u32 z2.b.p.k, .int .u32 z2.a.r, .int .u16 z2.a.p.i, .int .u32 z2.a.p.k, .bool z2.has, .int .i64 z2.y.kind, .int .u16 z2.y.p.i, .int .u32 z2.y.p.k, .int .u64 z2.y.num, .int .u64 z2.y.vn, .slice z2.y.A z2.y.n z2.y.c, .int .u64 z2.y.x.id, .slice z2.y.x.A z2.y.x.m z2.y.x.c, .slice z2.y.x.B z2.y.x.d z2.y.x.e, .slice z2.y.x.C z2.y.x.f z2.y.x.g, .int .u64 z2.x.id, .slice z2.x.A z2.x.m z2.x.c, .slice z2.x.B z2.x.d z2.x.e, .slice z2.x.C z2.x.f z2.x.g, .slice z2.A z2.n z2.c]] w fun e w' => e = .returned (.bool t) ∧ Below w.heap.size w w' := by
  rw [ms_eq] at ht
  have ht' : t = true ↔ z1.kind = z2.kind ∧ z1.who.i = z2.who.i ∧ z1.who.k = z2.who.k ∧ z1.view = z2.view ∧ z1.slot = z2.slot ∧ z1.num = z2.num ∧ z1.hops = z2.hops ∧ z1.b.r = z2.b.r ∧ z1.b.p.i = z2.b.p.i ∧ z1.b.p.k = z2.b.p.k ∧ z1.a.r = z2.a.r ∧ z1.a.p.i = z2.a.p.i ∧ z1.a.p.k = z2.a.p.k ∧ z1.has = z2.has ∧ z1.y.m = z2.y.m ∧ z1.x.v = z2.x.v ∧ z1.l = z2.l := ht
  have v0 := (MAt10.mk_ w z1).alloc (.cells #[.int .i64 z2.kind, .int .u16 z2.who.i, .int .u32 z2.who.k, .int .u64 z2.view, .int .u64 z2.slot, .int .u64 z2.num, .int .i64 z2.hops, .int .u32 z2.b.r, .int .u16 z2.b.p.i, .int .u32 z2.b.p.k, .int .u32 z2.a.r, .int .u16 z2.a.p.i, .int .u32 z2.a.p.k, .bool z2.has, .int .i64 z2.y.kind, .int .u16 z2.y.p.i, .int .u32 z2.y.p.k, .int .u64 z2.y.num, .int .u64 z2.y.vn, .slice z2.y.A z2.y.n z2.y.c, .int .u64 z2.y.x.id, .slice z2.y.x.A z2.y.x.m z2.y.x.c, .slice z2.y.x.B z2.y.x.d z2.y.x.e, .slice z2.y.x.C z2.y.x.f z2.y.x.g, .int .u64 z2.x.id, .slice z2.x.A z2.x.m z2.x.c, .slice z2.x.B z2.x.d z2.x.e, .slice z2.x.C z2.x.f z2.x.g, .slice z2.A z2.n z2.c] 50)
  have v1 := MAt10.mk_ (w.alloc (.cells #[.int .i64 z1.kind, .int .u16 z1.who.i, .int .u32 z1.who.k, .int .u64 z1.view, .int .u64 z1.slot, .int .u64 z1.num, .int .i64 z1.hops, .int .u32 z1.b.r, .int .u16 z1.b.p.i, .int .u32 z1.b.p.k, .int .u32 z1.a.r, .int .u16 z1.a.p.i, .int .u32 z1.a.p.k, .bool z1.has, .int .i64 z1.y.kind, .int .u16 z1.y.p.i, .int .u32 z1.y.p.k, .int .u64 z1.y.num, .int .u64 z1.y.vn, .slice z1.y.A z1.y.n z1.y.c, .int .u64 z1.y.x.id, .slice z1.y.x.A z1.y.x.m z1.y.x.c, .slice z1.y.x.B z1.y.x.d z1.y.x.e, .slice z1.y.x.C z1.y.x.f z1.y.x.g, .int .u64 z1.x.id, .slice z1.x.A z1.x.m z1.x.c, .slice z1.x.B z1.x.d z1.x.e, .slice z1.x.C z1.x.f z1.x.g, .slice z1.A z1.n z1.c] 50)) z2
  simp only [World.size_alloc] at v1
  have hbz : Below w.heap.size w ((w.alloc (.cells #[.int .i64 z1.kind, .int .u16 z1.who.i, .int .u32 z1.who.k, .int .u64 z1.view, .int .u64 z1.slot, .int .u64 z1.num, .int .i64 z1.hops, .int .u32 z1.b.r, .int .u16 z1.b.p.i, .int .u32 z1.b.p.k, .int .u32 z1.a.r, .int .u16 z1.a.p.i, .int .u32 z1.a.p.k, .bool z1.has, .int .i64 z1.y.kind, .int .u16 z1.y.p.i, .int .u32 z1.y.p.k, .int .u64 z1.y.num, .int .u64 z1.y.vn, .slice z1.y.A z1.y.n z1.y.c, .int .u64 z1.y.x.id, .slice z1.y.x.A z1.y.x.m z1.y.x.c, .slice z1.y.x.B z1.y.x.d z1.y.x.e, .slice z1.y.x.C z1.y.x.f z1.y.x.g, .int .u64 z1.x.id, .slice z1.x.A z1.x.m z1.x.c, .slice z1.x.B z1.x.d z1.x.e, .slice z1.x.C z1.x.f z1.x.g, .slice z1.A z1.n z1.c] 50)).alloc (.cells #[.int .i64 z2.kind, .int .u16 z2.who.i, .int .u32 z2.who.k, .int .u64 z2.view, .int .u64 z2.slot, .int .u64 z2.num, .int .i64 z2.hops, .int .u32 z2.b.r, .int .u16 z2.b.p.i, .int .u32 z2.b.p.k, .int .u32 z2.a.r, .int .u16 z2.a.p.i, .int .u32 z2.a.p.k, .bool z2.has, .int .i64 z2.y.kind, .int .u16 z2.y.p.i, .int .u32 z2.y.p.k, .int .u64 z2.y.num, .int .u64 z2.y.vn, .slice z2.y.A z2.y.n z2.y.c, .int .u64 z2.y.x.id, .slice z2.y.x.A z2.y.x.m z2.y.x.c, .slice z2.y.x.B z2.y.x.d z2.y.x.e, .slice z2.y.x.C z2.y.x.f z2.y.x.g, .int .u64 z2.x.id, .slice z2.x.A z2.x.m z2.x.c, .slice z2.x.B z2.x.d z2.x.e, .slice z2.x.C z2.x.f z2.x.g, .slice z2.A z2.n z2.c] 50)) := ((Below.refl _ _).alloc (Nat.le_refl _) _).alloc (by simp) _
  obtain ⟨uC, huC⟩ := bool_of (z1.y.m = z2.y.m)
  obtain ⟨uV, huV⟩ := bool_of (z1.x.v = z2.x.v)
  obtain ⟨uB, huB⟩ : ∃ u, u = sameB z1.l z2.l := ⟨_, rfl⟩
  have kB : uB = true ↔ z1.l = z2.l := by rw [huB]; unfold sameB; rw [decide_eq_true_eq]
  have CC := fun W (hb : Below w.heap.size w W) => rcsame_any z1.y z2.y B B' W uC (h.cm.below (hb.mono hB)) (h'.cm.below (hb.mono hB')) (Nat.le_trans hB hb.size) (Nat.le_trans hB' hb.size) huC
  have CV := fun W (hb : Below w.heap.size w W) => rvsame_any z1.x z2.x B B' W uV (h.vw.below (hb.mono hB)) (h'.vw.below (hb.mono hB')) (Nat.le_trans hB hb.size) (Nat.le_trans hB' hb.size) huV
  have CB := fun W (hb : Below w.heap.size w W) => same_any z1.A z2.A z1.n z2.n z1.c z2.c z1.l z2.l B B' W ((h.bs.below (hb.mono hB))) ((h'.bs.below (hb.mono hB'))) (Nat.le_trans h.nc h.room) (Nat.le_trans h'.nc h'.room)
  rw [← huB] at CB
  have HT := hide (And.intro ht' (And.intro huC (And.intro huV kB)))
  have HC := hide (And.intro CC (And.intro CV CB))
  have hl0 := v0.lt
  have hl1 := v1.lt
  have HV := hide (And.intro v0 v1)
  clear ht ht' huC huV huB kB CC CV CB h h' v0 v1
  obtain ⟨a0, ⟨a1, a2, a1h, a2h⟩, a3, a4, a5, a6, ⟨a7, ⟨a8, a9, a8h, a9h⟩, a7h⟩, ⟨a10, ⟨a11, a12, a11h, a12h⟩, a10h⟩, a13, ay, ax, aA, an, ac, al⟩ := z1
  obtain ⟨b0, ⟨b1, b2, b1h, b2h⟩, b3, b4, b5, b6, ⟨b7, ⟨b8, b9, b8h, b9h⟩, b7h⟩, ⟨b10, ⟨b11, b12, b11h, b12h⟩, b10h⟩, b13, by_, bx, bA, bn, bc, bl⟩ := z2
  dsimp only at *
  generalize hw2 : ((w.alloc (.cells #[.int .i64 a0, .int .u16 a1, .int .u32 a2, .int .u64 a3, .int .u64 a4, .int .u64 a5, .int .i64 a6, .int .u32 a7, .int .u16 a8, .int .u32 a9, .int .u32 a10, .int .u16 a11, .int .u32 a12, .bool a13, .int .i64 ay.kind, .int .u16 ay.p.i, .int .u32 ay.p.k, .int .u64 ay.num, .int .u64 ay.vn, .slice ay.A ay.n ay.c, .int .u64 ay.x.id, .slice ay.x.A ay.x.m ay.x.c, .slice ay.x.B ay.x.d ay.x.e, .slice ay.x.C ay.x.f ay.x.g, .int .u64 ax.id, .slice ax.A ax.m ax.c, .slice ax.B ax.d ax.e, .slice ax.C ax.f ax.g, .slice aA an ac] 50)).alloc (.cells #[.int .i64 b0, .int .u16 b1, .int .u32 b2, .int .u64 b3, .int .u64 b4, .int .u64 b5, .int .i64 b6, .int .u32 b7, .int .u16 b8, .int .u32 b9, .int .u32 b10, .int .u16 b11, .int .u32 b12, .bool b13, .int .i64 by_.kind, .int .u16 by_.p.i, .int .u32 by_.p.k, .int .u64 by_.num, .int .u64 by_.vn, .slice by_.A by_.n by_.c, .int .u64 by_.x.id, .slice by_.x.A by_.x.m by_.x.c, .slice by_.x.B by_.x.d by_.x.e, .slice by_.x.C by_.x.f by_.x.g, .int .u64 bx.id, .slice bx.A bx.m bx.c, .slice bx.B bx.d bx.e, .slice bx.C bx.f bx.g, .slice bA bn bc] 50)) = w2 at *
  by_cases h0 : a0 = b0
  case neg =>
    have hf : t = false := not_of_iff HT.out.1 (fun e => h0 e.1)
    have HF := hide hf
    have x1 : (a0 == b0) = false := by rw [beq_eq_false_iff_ne]; exact h0
    have x2 : (a0 != b0) = true := by rw [bne_iff_ne]; exact h0
    clear hf HC
    have j0 := HV.out.1.cells.1
    have j1 := HV.out.1.cells.2.1
    have j2 := HV.out.1.cells.2.2.1
    have j3 := HV.out.1.cells.2.2.2.1
    have j4 := HV.out.1.cells.2.2.2.2.1
    have j5 := HV.out.1.cells.2.2.2.2.2.1
    have j6 := HV.out.1.cells.2.2.2.2.2.2.1
    have j7 := HV.out.1.cells.2.2.2.2.2.2.2.1
    have j8 := HV.out.1.cells.2.2.2.2.2.2.2.2.1
    have j9 := HV.out.1.cells.2.2.2.2.2.2.2.2.2.1
    have j10 := HV.out.1.cells.2.2.2.2.2.2.2.2.2.2.1
    have j11 := HV.out.1.cells.2.2.2.2.2.2.2.2.2.2.2.1
    have j12 := HV.out.1.cells.2.2.2.2.2.2.2.2.2.2.2.2.1
    have j13 := HV.out.1.cells.2.2.2.2.2.2.2.2.2.2.2.2.2.1
    dsimp only at j0 j1 j2 j3 j4 j5 j6 j7 j8 j9 j10 j11 j12 j13
    have g0 := HV.out.2.cells.1
    have g1 := HV.out.2.cells.2.1
    have g2 := HV.out.2.cells.2.2.1
    have g3 := HV.out.2.cells.2.2.2.1
    have g4 := HV.out.2.cells.2.2.2.2.1
    have g5 := HV.out.2.cells.2.2.2.2.2.1
    have g6 := HV.out.2.cells.2.2.2.2.2.2.1
    have g7 := HV.out.2.cells.2.2.2.2.2.2.2.1
    have g8 := HV.out.2.cells.2.2.2.2.2.2.2.2.1
    have g9 := HV.out.2.cells.2.2.2.2.2.2.2.2.2.1
    have g10 := HV.out.2.cells.2.2.2.2.2.2.2.2.2.2.1
    have g11 := HV.out.2.cells.2.2.2.2.2.2.2.2.2.2.2.1
    have g12 := HV.out.2.cells.2.2.2.2.2.2.2.2.2.2.2.2.1
    have g13 := HV.out.2.cells.2.2.2.2.2.2.2.2.2.2.2.2.2.1
    dsimp only at g0 g1 g2 g3 g4 g5 g6 g7 g8 g9 g10 g11 g12 g13
    go_enter Tryz.func18, Tryz.ntmps18
    go_wp2
    all_goals (go_ret; exact ⟨ret_bool HF.out.symm, hbz⟩)
  subst h0
  by_cases h1 : a1 = b1
  case neg =>
    have hf : t = false := not_of_iff HT.out.1 (fun e => h1 e.2.1)
    have HF := hide hf
    have x1 : ((a1 : Int) == (b1 : Int)) = false := by rw [beq_eq_false_iff_ne]; omega
    have x2 : ((a1 : Int) != (b1 : Int)) = true := by rw [bne_iff_ne]; omega
    have x3 : ¬ ((a1 : Int) = (b1 : Int)) := by omega
    clear hf HC
    have j0 := HV.out.1.cells.1
    have j1 := HV.out.1.cells.2.1
    have j2 := HV.out.1.cells.2.2.1
    have j3 := HV.out.1.cells.2.2.2.1
    have j4 := HV.out.1.cells.2.2.2.2.1
    have j5 := HV.out.1.cells.2.2.2.2.2.1
    have j6 := HV.out.1.cells.2.2.2.2.2.2.1
    have j7 := HV.out.1.cells.2.2.2.2.2.2.2.1
    have j8 := HV.out.1.cells.2.2.2.2.2.2.2.2.1
    have j9 := HV.out.1.cells.2.2.2.2.2.2.2.2.2.1
    have j10 := HV.out.1.cells.2.2.2.2.2.2.2.2.2.2.1
    have j11 := HV.out.1.cells.2.2.2.2.2.2.2.2.2.2.2.1
    have j12 := HV.out.1.cells.2.2.2.2.2.2.2.2.2.2.2.2.1
    have j13 := HV.out.1.cells.2.2.2.2.2.2.2.2.2.2.2.2.2.1
    dsimp only at j0 j1 j2 j3 j4 j5 j6 j7 j8 j9 j10 j11 j12 j13
    have g0 := HV.out.2.cells.1
    have g1 := HV.out.2.cells.2.1
    have g2 := HV.out.2.cells.2.2.1
    have g3 := HV.out.2.cells.2.2.2.1
    have g4 := HV.out.2.cells.2.2.2.2.1
    have g5 := HV.out.2.cells.2.2.2.2.2.1
    have g6 := HV.out.2.cells.2.2.2.2.2.2.1
    have g7 := HV.out.2.cells.2.2.2.2.2.2.2.1
    have g8 := HV.out.2.cells.2.2.2.2.2.2.2.2.1
    have g9 := HV.out.2.cells.2.2.2.2.2.2.2.2.2.1
    have g10 := HV.out.2.cells.2.2.2.2.2.2.2.2.2.2.1
    have g11 := HV.out.2.cells.2.2.2.2.2.2.2.2.2.2.2.1
    have g12 := HV.out.2.cells.2.2.2.2.2.2.2.2.2.2.2.2.1
    have g13 := HV.out.2.cells.2.2.2.2.2.2.2.2.2.2.2.2.2.1
    dsimp only at g0 g1 g2 g3 g4 g5 g6 g7 g8 g9 g10 g11 g12 g13
    go_enter Tryz.func18, Tryz.ntmps18
    go_wp2
    all_goals (go_ret; exact ⟨ret_bool HF.out.symm, hbz⟩)
  subst h1
  by_cases h2 : a2 = b2
  case neg =>
    have hf : t = false := not_of_iff HT.out.1 (fun e => h2 e.2.2.1)
    have HF := hide hf
    have x1 : ((a2 : Int) == (b2 : Int)) = false := by rw [beq_eq_false_iff_ne]; omega
    have x2 : ((a2 : Int) != (b2 : Int)) = true := by rw [bne_iff_ne]; omega
    have x3 : ¬ ((a2 : Int) = (b2 : Int)) := by omega
    clear hf HC
    have j0 := HV.out.1.cells.1
    have j1 := HV.out.1.cells.2.1
    have j2 := HV.out.1.cells.2.2.1
    have j3 := HV.out.1.cells.2.2.2.1
    have j4 := HV.out.1.cells.2.2.2.2.1
    have j5 := HV.out.1.cells.2.2.2.2.2.1
    have j6 := HV.out.1.cells.2.2.2.2.2.2.1
    have j7 := HV.out.1.cells.2.2.2.2.2.2.2.1
    have j8 := HV.out.1.cells.2.2.2.2.2.2.2.2.1
    have j9 := HV.out.1.cells.2.2.2.2.2.2.2.2.2.1
    have j10 := HV.out.1.cells.2.2.2.2.2.2.2.2.2.2.1
    have j11 := HV.out.1.cells.2.2.2.2.2.2.2.2.2.2.2.1
    have j12 := HV.out.1.cells.2.2.2.2.2.2.2.2.2.2.2.2.1
    have j13 := HV.out.1.cells.2.2.2.2.2.2.2.2.2.2.2.2.2.1
    dsimp only at j0 j1 j2 j3 j4 j5 j6 j7 j8 j9 j10 j11 j12 j13
    have g0 := HV.out.2.cells.1
    have g1 := HV.out.2.cells.2.1
    have g2 := HV.out.2.cells.2.2.1
    have g3 := HV.out.2.cells.2.2.2.1
    have g4 := HV.out.2.cells.2.2.2.2.1
    have g5 := HV.out.2.cells.2.2.2.2.2.1
    have g6 := HV.out.2.cells.2.2.2.2.2.2.1
    have g7 := HV.out.2.cells.2.2.2.2.2.2.2.1
    have g8 := HV.out.2.cells.2.2.2.2.2.2.2.2.1
    have g9 := HV.out.2.cells.2.2.2.2.2.2.2.2.2.1
    have g10 := HV.out.2.cells.2.2.2.2.2.2.2.2.2.2.1
    have g11 := HV.out.2.cells.2.2.2.2.2.2.2.2.2.2.2.1
    have g12 := HV.out.2.cells.2.2.2.2.2.2.2.2.2.2.2.2.1
    have g13 := HV.out.2.cells.2.2.2.2.2.2.2.2.2.2.2.2.2.1
    dsimp only at g0 g1 g2 g3 g4 g5 g6 g7 g8 g9 g10 g11 g12 g13
    go_enter Tryz.func18, Tryz.ntmps18
    go_wp2
    all_goals (go_ret; exact ⟨ret_bool HF.out.symm, hbz⟩)
  subst h2
  by_cases h3 : a3 = b3
  case neg =>
    have hf : t = false := not_of_iff HT.out.1 (fun e => h3 e.2.2.2.1)
    have HF := hide hf
    have x1 : ((a3 : Int) == (b3 : Int)) = false := by rw [beq_eq_false_iff_ne]; omega
    have x2 : ((a3 : Int) != (b3 : Int)) = true := by rw [bne_iff_ne]; omega
    have x3 : ¬ ((a3 : Int) = (b3 : Int)) := by omega
    clear hf HC
    have j0 := HV.out.1.cells.1
    have j1 := HV.out.1.cells.2.1
    have j2 := HV.out.1.cells.2.2.1
    have j3 := HV.out.1.cells.2.2.2.1
    have j4 := HV.out.1.cells.2.2.2.2.1
    have j5 := HV.out.1.cells.2.2.2.2.2.1
    have j6 := HV.out.1.cells.2.2.2.2.2.2.1
    have j7 := HV.out.1.cells.2.2.2.2.2.2.2.1
    have j8 := HV.out.1.cells.2.2.2.2.2.2.2.2.1
    have j9 := HV.out.1.cells.2.2.2.2.2.2.2.2.2.1
    have j10 := HV.out.1.cells.2.2.2.2.2.2.2.2.2.2.1
    have j11 := HV.out.1.cells.2.2.2.2.2.2.2.2.2.2.2.1
    have j12 := HV.out.1.cells.2.2.2.2.2.2.2.2.2.2.2.2.1
    have j13 := HV.out.1.cells.2.2.2.2.2.2.2.2.2.2.2.2.2.1
    dsimp only at j0 j1 j2 j3 j4 j5 j6 j7 j8 j9 j10 j11 j12 j13
    have g0 := HV.out.2.cells.1
    have g1 := HV.out.2.cells.2.1
    have g2 := HV.out.2.cells.2.2.1
    have g3 := HV.out.2.cells.2.2.2.1
    have g4 := HV.out.2.cells.2.2.2.2.1
    have g5 := HV.out.2.cells.2.2.2.2.2.1
    have g6 := HV.out.2.cells.2.2.2.2.2.2.1
    have g7 := HV.out.2.cells.2.2.2.2.2.2.2.1
    have g8 := HV.out.2.cells.2.2.2.2.2.2.2.2.1
    have g9 := HV.out.2.cells.2.2.2.2.2.2.2.2.2.1
    have g10 := HV.out.2.cells.2.2.2.2.2.2.2.2.2.2.1
    have g11 := HV.out.2.cells.2.2.2.2.2.2.2.2.2.2.2.1
    have g12 := HV.out.2.cells.2.2.2.2.2.2.2.2.2.2.2.2.1
    have g13 := HV.out.2.cells.2.2.2.2.2.2.2.2.2.2.2.2.2.1
    dsimp only at g0 g1 g2 g3 g4 g5 g6 g7 g8 g9 g10 g11 g12 g13
    go_enter Tryz.func18, Tryz.ntmps18
    go_wp2
    all_goals (go_ret; exact ⟨ret_bool HF.out.symm, hbz⟩)
  subst h3
  by_cases h4 : a4 = b4
  case neg =>
    have hf : t = false := not_of_iff HT.out.1 (fun e => h4 e.2.2.2.2.1)
    have HF := hide hf
    have x1 : ((a4 : Int) == (b4 : Int)) = false := by rw [beq_eq_false_iff_ne]; omega
    have x2 : ((a4 : Int) != (b4 : Int)) = true := by rw [bne_iff_ne]; omega
    have x3 : ¬ ((a4 : Int) = (b4 : Int)) := by omega
    clear hf HC
    have j0 := HV.out.1.cells.1
    have j1 := HV.out.1.cells.2.1
    have j2 := HV.out.1.cells.2.2.1
    have j3 := HV.out.1.cells.2.2.2.1
    have j4 := HV.out.1.cells.2.2.2.2.1
    have j5 := HV.out.1.cells.2.2.2.2.2.1
    have j6 := HV.out.1.cells.2.2.2.2.2.2.1
    have j7 := HV.out.1.cells.2.2.2.2.2.2.2.1
    have j8 := HV.out.1.cells.2.2.2.2.2.2.2.2.1
    have j9 := HV.out.1.cells.2.2.2.2.2.2.2.2.2.1
    have j10 := HV.out.1.cells.2.2.2.2.2.2.2.2.2.2.1
    have j11 := HV.out.1.cells.2.2.2.2.2.2.2.2.2.2.2.1
    have j12 := HV.out.1.cells.2.2.2.2.2.2.2.2.2.2.2.2.1
    have j13 := HV.out.1.cells.2.2.2.2.2.2.2.2.2.2.2.2.2.1
    dsimp only at j0 j1 j2 j3 j4 j5 j6 j7 j8 j9 j10 j11 j12 j13
    have g0 := HV.out.2.cells.1
    have g1 := HV.out.2.cells.2.1
    have g2 := HV.out.2.cells.2.2.1
    have g3 := HV.out.2.cells.2.2.2.1
    have g4 := HV.out.2.cells.2.2.2.2.1
    have g5 := HV.out.2.cells.2.2.2.2.2.1
    have g6 := HV.out.2.cells.2.2.2.2.2.2.1
    have g7 := HV.out.2.cells.2.2.2.2.2.2.2.1
    have g8 := HV.out.2.cells.2.2.2.2.2.2.2.2.1
    have g9 := HV.out.2.cells.2.2.2.2.2.2.2.2.2.1
    have g10 := HV.out.2.cells.2.2.2.2.2.2.2.2.2.2.1
    have g11 := HV.out.2.cells.2.2.2.2.2.2.2.2.2.2.2.1
    have g12 := HV.out.2.cells.2.2.2.2.2.2.2.2.2.2.2.2.1
    have g13 := HV.out.2.cells.2.2.2.2.2.2.2.2.2.2.2.2.2.1
    dsimp only at g0 g1 g2 g3 g4 g5 g6 g7 g8 g9 g10 g11 g12 g13
    go_enter Tryz.func18, Tryz.ntmps18
    go_wp2
    all_goals (go_ret; exact ⟨ret_bool HF.out.symm, hbz⟩)
  subst h4
  by_cases h5 : a5 = b5
  case neg =>
    have hf : t = false := not_of_iff HT.out.1 (fun e => h5 e.2.2.2.2.2.1)
    have HF := hide hf
    have x1 : ((a5 : Int) == (b5 : Int)) = false := by rw [beq_eq_false_iff_ne]; omega
    have x2 : ((a5 : Int) != (b5 : Int)) = true := by rw [bne_iff_ne]; omega
    have x3 : ¬ ((a5 : Int) = (b5 : Int)) := by omega
    clear hf HC
    have j0 := HV.out.1.cells.1
    have j1 := HV.out.1.cells.2.1
    have j2 := HV.out.1.cells.2.2.1
    have j3 := HV.out.1.cells.2.2.2.1
    have j4 := HV.out.1.cells.2.2.2.2.1
    have j5 := HV.out.1.cells.2.2.2.2.2.1
    have j6 := HV.out.1.cells.2.2.2.2.2.2.1
    have j7 := HV.out.1.cells.2.2.2.2.2.2.2.1
    have j8 := HV.out.1.cells.2.2.2.2.2.2.2.2.1
    have j9 := HV.out.1.cells.2.2.2.2.2.2.2.2.2.1
    have j10 := HV.out.1.cells.2.2.2.2.2.2.2.2.2.2.1
    have j11 := HV.out.1.cells.2.2.2.2.2.2.2.2.2.2.2.1
    have j12 := HV.out.1.cells.2.2.2.2.2.2.2.2.2.2.2.2.1
    have j13 := HV.out.1.cells.2.2.2.2.2.2.2.2.2.2.2.2.2.1
    dsimp only at j0 j1 j2 j3 j4 j5 j6 j7 j8 j9 j10 j11 j12 j13
    have g0 := HV.out.2.cells.1
    have g1 := HV.out.2.cells.2.1
    have g2 := HV.out.2.cells.2.2.1
    have g3 := HV.out.2.cells.2.2.2.1
    have g4 := HV.out.2.cells.2.2.2.2.1
    have g5 := HV.out.2.cells.2.2.2.2.2.1
    have g6 := HV.out.2.cells.2.2.2.2.2.2.1
    have g7 := HV.out.2.cells.2.2.2.2.2.2.2.1
    have g8 := HV.out.2.cells.2.2.2.2.2.2.2.2.1
    have g9 := HV.out.2.cells.2.2.2.2.2.2.2.2.2.1
    have g10 := HV.out.2.cells.2.2.2.2.2.2.2.2.2.2.1
    have g11 := HV.out.2.cells.2.2.2.2.2.2.2.2.2.2.2.1
    have g12 := HV.out.2.cells.2.2.2.2.2.2.2.2.2.2.2.2.1
    have g13 := HV.out.2.cells.2.2.2.2.2.2.2.2.2.2.2.2.2.1
    dsimp only at g0 g1 g2 g3 g4 g5 g6 g7 g8 g9 g10 g11 g12 g13
    go_enter Tryz.func18, Tryz.ntmps18
    go_wp2
    all_goals (go_ret; exact ⟨ret_bool HF.out.symm, hbz⟩)
  subst h5
  by_cases h6 : a6 = b6
  case neg =>
    have hf : t = false := not_of_iff HT.out.1 (fun e => h6 e.2.2.2.2.2.2.1)
    have HF := hide hf
    have x1 : (a6 == b6) = false := by rw [beq_eq_false_iff_ne]; exact h6
    have x2 : (a6 != b6) = true := by rw [bne_iff_ne]; exact h6
    clear hf HC
    have j0 := HV.out.1.cells.1
    have j1 := HV.out.1.cells.2.1
    have j2 := HV.out.1.cells.2.2.1
    have j3 := HV.out.1.cells.2.2.2.1
    have j4 := HV.out.1.cells.2.2.2.2.1
    have j5 := HV.out.1.cells.2.2.2.2.2.1
    have j6 := HV.out.1.cells.2.2.2.2.2.2.1
    have j7 := HV.out.1.cells.2.2.2.2.2.2.2.1
    have j8 := HV.out.1.cells.2.2.2.2.2.2.2.2.1
    have j9 := HV.out.1.cells.2.2.2.2.2.2.2.2.2.1
    have j10 := HV.out.1.cells.2.2.2.2.2.2.2.2.2.2.1
    have j11 := HV.out.1.cells.2.2.2.2.2.2.2.2.2.2.2.1
    have j12 := HV.out.1.cells.2.2.2.2.2.2.2.2.2.2.2.2.1
    have j13 := HV.out.1.cells.2.2.2.2.2.2.2.2.2.2.2.2.2.1
    dsimp only at j0 j1 j2 j3 j4 j5 j6 j7 j8 j9 j10 j11 j12 j13
    have g0 := HV.out.2.cells.1
    have g1 := HV.out.2.cells.2.1
    have g2 := HV.out.2.cells.2.2.1
    have g3 := HV.out.2.cells.2.2.2.1
    have g4 := HV.out.2.cells.2.2.2.2.1
    have g5 := HV.out.2.cells.2.2.2.2.2.1
    have g6 := HV.out.2.cells.2.2.2.2.2.2.1
    have g7 := HV.out.2.cells.2.2.2.2.2.2.2.1
    have g8 := HV.out.2.cells.2.2.2.2.2.2.2.2.1
    have g9 := HV.out.2.cells.2.2.2.2.2.2.2.2.2.1
    have g10 := HV.out.2.cells.2.2.2.2.2.2.2.2.2.2.1
    have g11 := HV.out.2.cells.2.2.2.2.2.2.2.2.2.2.2.1
    have g12 := HV.out.2.cells.2.2.2.2.2.2.2.2.2.2.2.2.1
    have g13 := HV.out.2.cells.2.2.2.2.2.2.2.2.2.2.2.2.2.1
    dsimp only at g0 g1 g2 g3 g4 g5 g6 g7 g8 g9 g10 g11 g12 g13
    go_enter Tryz.func18, Tryz.ntmps18
    go_wp2
    all_goals (go_ret; exact ⟨ret_bool HF.out.symm, hbz⟩)
  subst h6
  by_cases h7 : a7 = b7
  case neg =>
    have hf : t = false := not_of_iff HT.out.1 (fun e => h7 e.2.2.2.2.2.2.2.1)
    have HF := hide hf
    have x1 : ((a7 : Int) == (b7 : Int)) = false := by rw [beq_eq_false_iff_ne]; omega
    have x2 : ((a7 : Int) != (b7 : Int)) = true := by rw [bne_iff_ne]; omega
    have x3 : ¬ ((a7 : Int) = (b7 : Int)) := by omega
    clear hf HC
    have j0 := HV.out.1.cells.1
    have j1 := HV.out.1.cells.2.1
    have j2 := HV.out.1.cells.2.2.1
    have j3 := HV.out.1.cells.2.2.2.1
    have j4 := HV.out.1.cells.2.2.2.2.1
    have j5 := HV.out.1.cells.2.2.2.2.2.1
    have j6 := HV.out.1.cells.2.2.2.2.2.2.1
    have j7 := HV.out.1.cells.2.2.2.2.2.2.2.1
    have j8 := HV.out.1.cells.2.2.2.2.2.2.2.2.1
    have j9 := HV.out.1.cells.2.2.2.2.2.2.2.2.2.1
    have j10 := HV.out.1.cells.2.2.2.2.2.2.2.2.2.2.1
    have j11 := HV.out.1.cells.2.2.2.2.2.2.2.2.2.2.2.1
    have j12 := HV.out.1.cells.2.2.2.2.2.2.2.2.2.2.2.2.1
    have j13 := HV.out.1.cells.2.2.2.2.2.2.2.2.2.2.2.2.2.1
    dsimp only at j0 j1 j2 j3 j4 j5 j6 j7 j8 j9 j10 j11 j12 j13
    have g0 := HV.out.2.cells.1
    have g1 := HV.out.2.cells.2.1
    have g2 := HV.out.2.cells.2.2.1
    have g3 := HV.out.2.cells.2.2.2.1
    have g4 := HV.out.2.cells.2.2.2.2.1
    have g5 := HV.out.2.cells.2.2.2.2.2.1
    have g6 := HV.out.2.cells.2.2.2.2.2.2.1
    have g7 := HV.out.2.cells.2.2.2.2.2.2.2.1
    have g8 := HV.out.2.cells.2.2.2.2.2.2.2.2.1
    have g9 := HV.out.2.cells.2.2.2.2.2.2.2.2.2.1
    have g10 := HV.out.2.cells.2.2.2.2.2.2.2.2.2.2.1
    have g11 := HV.out.2.cells.2.2.2.2.2.2.2.2.2.2.2.1
    have g12 := HV.out.2.cells.2.2.2.2.2.2.2.2.2.2.2.2.1
    have g13 := HV.out.2.cells.2.2.2.2.2.2.2.2.2.2.2.2.2.1
    dsimp only at g0 g1 g2 g3 g4 g5 g6 g7 g8 g9 g10 g11 g12 g13
    go_enter Tryz.func18, Tryz.ntmps18
    go_wp2
    all_goals (go_ret; exact ⟨ret_bool HF.out.symm, hbz⟩)
  subst h7
  by_cases h8 : a8 = b8
  case neg =>
    have hf : t = false := not_of_iff HT.out.1 (fun e => h8 e.2.2.2.2.2.2.2.2.1)
    have HF := hide hf
    have x1 : ((a8 : Int) == (b8 : Int)) = false := by rw [beq_eq_false_iff_ne]; omega
    have x2 : ((a8 : Int) != (b8 : Int)) = true := by rw [bne_iff_ne]; omega
    have x3 : ¬ ((a8 : Int) = (b8 : Int)) := by omega
    clear hf HC
    have j0 := HV.out.1.cells.1
    have j1 := HV.out.1.cells.2.1
    have j2 := HV.out.1.cells.2.2.1
    have j3 := HV.out.1.cells.2.2.2.1
    have j4 := HV.out.1.cells.2.2.2.2.1
    have j5 := HV.out.1.cells.2.2.2.2.2.1
    have j6 := HV.out.1.cells.2.2.2.2.2.2.1
    have j7 := HV.out.1.cells.2.2.2.2.2.2.2.1
    have j8 := HV.out.1.cells.2.2.2.2.2.2.2.2.1
    have j9 := HV.out.1.cells.2.2.2.2.2.2.2.2.2.1
    have j10 := HV.out.1.cells.2.2.2.2.2.2.2.2.2.2.1
    have j11 := HV.out.1.cells.2.2.2.2.2.2.2.2.2.2.2.1
    have j12 := HV.out.1.cells.2.2.2.2.2.2.2.2.2.2.2.2.1
    have j13 := HV.out.1.cells.2.2.2.2.2.2.2.2.2.2.2.2.2.1
    dsimp only at j0 j1 j2 j3 j4 j5 j6 j7 j8 j9 j10 j11 j12 j13
    have g0 := HV.out.2.cells.1
    have g1 := HV.out.2.cells.2.1
    have g2 := HV.out.2.cells.2.2.1
    have g3 := HV.out.2.cells.2.2.2.1
    have g4 := HV.out.2.cells.2.2.2.2.1
    have g5 := HV.out.2.cells.2.2.2.2.2.1
    have g6 := HV.out.2.cells.2.2.2.2.2.2.1
    have g7 := HV.out.2.cells.2.2.2.2.2.2.2.1
    have g8 := HV.out.2.cells.2.2.2.2.2.2.2.2.1
    have g9 := HV.out.2.cells.2.2.2.2.2.2.2.2.2.1
    have g10 := HV.out.2.cells.2.2.2.2.2.2.2.2.2.2.1
    have g11 := HV.out.2.cells.2.2.2.2.2.2.2.2.2.2.2.1
    have g12 := HV.out.2.cells.2.2.2.2.2.2.2.2.2.2.2.2.1
    have g13 := HV.out.2.cells.2.2.2.2.2.2.2.2.2.2.2.2.2.1
    dsimp only at g0 g1 g2 g3 g4 g5 g6 g7 g8 g9 g10 g11 g12 g13
    go_enter Tryz.func18, Tryz.ntmps18
    go_wp2
    all_goals (go_ret; exact ⟨ret_bool HF.out.symm, hbz⟩)
  subst h8
  by_cases h9 : a9 = b9
  case neg =>
    have hf : t = false := not_of_iff HT.out.1 (fun e => h9 e.2.2.2.2.2.2.2.2.2.1)
    have HF := hide hf
    have x1 : ((a9 : Int) == (b9 : Int)) = false := by rw [beq_eq_false_iff_ne]; omega
    have x2 : ((a9 : Int) != (b9 : Int)) = true := by rw [bne_iff_ne]; omega
    have x3 : ¬ ((a9 : Int) = (b9 : Int)) := by omega
    clear hf HC
    have j0 := HV.out.1.cells.1
    have j1 := HV.out.1.cells.2.1
    have j2 := HV.out.1.cells.2.2.1
    have j3 := HV.out.1.cells.2.2.2.1
    have j4 := HV.out.1.cells.2.2.2.2.1
    have j5 := HV.out.1.cells.2.2.2.2.2.1
    have j6 := HV.out.1.cells.2.2.2.2.2.2.1
    have j7 := HV.out.1.cells.2.2.2.2.2.2.2.1
    have j8 := HV.out.1.cells.2.2.2.2.2.2.2.2.1
    have j9 := HV.out.1.cells.2.2.2.2.2.2.2.2.2.1
    have j10 := HV.out.1.cells.2.2.2.2.2.2.2.2.2.2.1
    have j11 := HV.out.1.cells.2.2.2.2.2.2.2.2.2.2.2.1
    have j12 := HV.out.1.cells.2.2.2.2.2.2.2.2.2.2.2.2.1
    have j13 := HV.out.1.cells.2.2.2.2.2.2.2.2.2.2.2.2.2.1
    dsimp only at j0 j1 j2 j3 j4 j5 j6 j7 j8 j9 j10 j11 j12 j13
    have g0 := HV.out.2.cells.1
    have g1 := HV.out.2.cells.2.1
    have g2 := HV.out.2.cells.2.2.1
    have g3 := HV.out.2.cells.2.2.2.1
    have g4 := HV.out.2.cells.2.2.2.2.1
    have g5 := HV.out.2.cells.2.2.2.2.2.1
    have g6 := HV.out.2.cells.2.2.2.2.2.2.1
    have g7 := HV.out.2.cells.2.2.2.2.2.2.2.1
    have g8 := HV.out.2.cells.2.2.2.2.2.2.2.2.1
    have g9 := HV.out.2.cells.2.2.2.2.2.2.2.2.2.1
    have g10 := HV.out.2.cells.2.2.2.2.2.2.2.2.2.2.1
    have g11 := HV.out.2.cells.2.2.2.2.2.2.2.2.2.2.2.1
    have g12 := HV.out.2.cells.2.2.2.2.2.2.2.2.2.2.2.2.1
    have g13 := HV.out.2.cells.2.2.2.2.2.2.2.2.2.2.2.2.2.1
    dsimp only at g0 g1 g2 g3 g4 g5 g6 g7 g8 g9 g10 g11 g12 g13
    go_enter Tryz.func18, Tryz.ntmps18
    go_wp2
    all_goals (go_ret; exact ⟨ret_bool HF.out.symm, hbz⟩)
  subst h9
  by_cases h10 : a10 = b10
  case neg =>
    have hf : t = false := not_of_iff HT.out.1 (fun e => h10 e.2.2.2.2.2.2.2.2.2.2.1)
    have HF := hide hf
    have x1 : ((a10 : Int) == (b10 : Int)) = false := by rw [beq_eq_false_iff_ne]; omega
    have x2 : ((a10 : Int) != (b10 : Int)) = true := by rw [bne_iff_ne]; omega
    have x3 : ¬ ((a10 : Int) = (b10 : Int)) := by omega
    clear hf HC
    have j0 := HV.out.1.cells.1
    have j1 := HV.out.1.cells.2.1
    have j2 := HV.out.1.cells.2.2.1
    have j3 := HV.out.1.cells.2.2.2.1
    have j4 := HV.out.1.cells.2.2.2.2.1
    have j5 := HV.out.1.cells.2.2.2.2.2.1
    have j6 := HV.out.1.cells.2.2.2.2.2.2.1
    have j7 := HV.out.1.cells.2.2.2.2.2.2.2.1
    have j8 := HV.out.1.cells.2.2.2.2.2.2.2.2.1
    have j9 := HV.out.1.cells.2.2.2.2.2.2.2.2.2.1
    have j10 := HV.out.1.cells.2.2.2.2.2.2.2.2.2.2.1
    have j11 := HV.out.1.cells.2.2.2.2.2.2.2.2.2.2.2.1
    have j12 := HV.out.1.cells.2.2.2.2.2.2.2.2.2.2.2.2.1
    have j13 := HV.out.1.cells.2.2.2.2.2.2.2.2.2.2.2.2.2.1
    dsimp only at j0 j1 j2 j3 j4 j5 j6 j7 j8 j9 j10 j11 j12 j13
    have g0 := HV.out.2.cells.1
    have g1 := HV.out.2.cells.2.1
    have g2 := HV.out.2.cells.2.2.1
    have g3 := HV.out.2.cells.2.2.2.1
    have g4 := HV.out.2.cells.2.2.2.2.1
    have g5 := HV.out.2.cells.2.2.2.2.2.1
    have g6 := HV.out.2.cells.2.2.2.2.2.2.1
    have g7 := HV.out.2.cells.2.2.2.2.2.2.2.1
    have g8 := HV.out.2.cells.2.2.2.2.2.2.2.2.1
    have g9 := HV.out.2.cells.2.2.2.2.2.2.2.2.2.1
    have g10 := HV.out.2.cells.2.2.2.2.2.2.2.2.2.2.1
    have g11 := HV.out.2.cells.2.2.2.2.2.2.2.2.2.2.2.1
    have g12 := HV.out.2.cells.2.2.2.2.2.2.2.2.2.2.2.2.1
    have g13 := HV.out.2.cells.2.2.2.2.2.2.2.2.2.2.2.2.2.1
    dsimp only at g0 g1 g2 g3 g4 g5 g6 g7 g8 g9 g10 g11 g12 g13
    go_enter Tryz.func18, Tryz.ntmps18
    go_wp2
    all_goals (go_ret; exact ⟨ret_bool HF.out.symm, hbz⟩)
  subst h10
  by_cases h11 : a11 = b11
  case neg =>
    have hf : t = false := not_of_iff HT.out.1 (fun e => h11 e.2.2.2.2.2.2.2.2.2.2.2.1)
    have HF := hide hf
    have x1 : ((a11 : Int) == (b11 : Int)) = false := by rw [beq_eq_false_iff_ne]; omega
    have x2 : ((a11 : Int) != (b11 : Int)) = true := by rw [bne_iff_ne]; omega
    have x3 : ¬ ((a11 : Int) = (b11 : Int)) := by omega
    clear hf HC
    have j0 := HV.out.1.cells.1
    have j1 := HV.out.1.cells.2.1
    have j2 := HV.out.1.cells.2.2.1
    have j3 := HV.out.1.cells.2.2.2.1
    have j4 := HV.out.1.cells.2.2.2.2.1
    have j5 := HV.out.1.cells.2.2.2.2.2.1
    have j6 := HV.out.1.cells.2.2.2.2.2.2.1
    have j7 := HV.out.1.cells.2.2.2.2.2.2.2.1
    have j8 := HV.out.1.cells.2.2.2.2.2.2.2.2.1
    have j9 := HV.out.1.cells.2.2.2.2.2.2.2.2.2.1
    have j10 := HV.out.1.cells.2.2.2.2.2.2.2.2.2.2.1
    have j11 := HV.out.1.cells.2.2.2.2.2.2.2.2.2.2.2.1
    have j12 := HV.out.1.cells.2.2.2.2.2.2.2.2.2.2.2.2.1
    have j13 := HV.out.1.cells.2.2.2.2.2.2.2.2.2.2.2.2.2.1
    dsimp only at j0 j1 j2 j3 j4 j5 j6 j7 j8 j9 j10 j11 j12 j13
    have g0 := HV.out.2.cells.1
    have g1 := HV.out.2.cells.2.1
    have g2 := HV.out.2.cells.2.2.1
    have g3 := HV.out.2.cells.2.2.2.1
    have g4 := HV.out.2.cells.2.2.2.2.1
    have g5 := HV.out.2.cells.2.2.2.2.2.1
    have g6 := HV.out.2.cells.2.2.2.2.2.2.1
    have g7 := HV.out.2.cells.2.2.2.2.2.2.2.1
    have g8 := HV.out.2.cells.2.2.2.2.2.2.2.2.1
    have g9 := HV.out.2.cells.2.2.2.2.2.2.2.2.2.1
    have g10 := HV.out.2.cells.2.2.2.2.2.2.2.2.2.2.1
    have g11 := HV.out.2.cells.2.2.2.2.2.2.2.2.2.2.2.1
    have g12 := HV.out.2.cells.2.2.2.2.2.2.2.2.2.2.2.2.1
    have g13 := HV.out.2.cells.2.2.2.2.2.2.2.2.2.2.2.2.2.1
    dsimp only at g0 g1 g2 g3 g4 g5 g6 g7 g8 g9 g10 g11 g12 g13
    go_enter Tryz.func18, Tryz.ntmps18
    go_wp2
    all_goals (go_ret; exact ⟨ret_bool HF.out.symm, hbz⟩)
  subst h11
  by_cases h12 : a12 = b12
  case neg =>
    have hf : t = false := not_of_iff HT.out.1 (fun e => h12 e.2.2.2.2.2.2.2.2.2.2.2.2.1)
    have HF := hide hf
    have x1 : ((a12 : Int) == (b12 : Int)) = false := by rw [beq_eq_false_iff_ne]; omega
    have x2 : ((a12 : Int) != (b12 : Int)) = true := by rw [bne_iff_ne]; omega
    have x3 : ¬ ((a12 : Int) = (b12 : Int)) := by omega
    clear hf HC
    have j0 := HV.out.1.cells.1
    have j1 := HV.out.1.cells.2.1
    have j2 := HV.out.1.cells.2.2.1
    have j3 := HV.out.1.cells.2.2.2.1
    have j4 := HV.out.1.cells.2.2.2.2.1
    have j5 := HV.out.1.cells.2.2.2.2.2.1
    have j6 := HV.out.1.cells.2.2.2.2.2.2.1
    have j7 := HV.out.1.cells.2.2.2.2.2.2.2.1
    have j8 := HV.out.1.cells.2.2.2.2.2.2.2.2.1
    have j9 := HV.out.1.cells.2.2.2.2.2.2.2.2.2.1
    have j10 := HV.out.1.cells.2.2.2.2.2.2.2.2.2.2.1
    have j11 := HV.out.1.cells.2.2.2.2.2.2.2.2.2.2.2.1
    have j12 := HV.out.1.cells.2.2.2.2.2.2.2.2.2.2.2.2.1
    have j13 := HV.out.1.cells.2.2.2.2.2.2.2.2.2.2.2.2.2.1
    dsimp only at j0 j1 j2 j3 j4 j5 j6 j7 j8 j9 j10 j11 j12 j13
    have g0 := HV.out.2.cells.1
    have g1 := HV.out.2.cells.2.1
    have g2 := HV.out.2.cells.2.2.1
    have g3 := HV.out.2.cells.2.2.2.1
    have g4 := HV.out.2.cells.2.2.2.2.1
    have g5 := HV.out.2.cells.2.2.2.2.2.1
    have g6 := HV.out.2.cells.2.2.2.2.2.2.1
    have g7 := HV.out.2.cells.2.2.2.2.2.2.2.1
    have g8 := HV.out.2.cells.2.2.2.2.2.2.2.2.1
    have g9 := HV.out.2.cells.2.2.2.2.2.2.2.2.2.1
    have g10 := HV.out.2.cells.2.2.2.2.2.2.2.2.2.2.1
    have g11 := HV.out.2.cells.2.2.2.2.2.2.2.2.2.2.2.1
    have g12 := HV.out.2.cells.2.2.2.2.2.2.2.2.2.2.2.2.1
    have g13 := HV.out.2.cells.2.2.2.2.2.2.2.2.2.2.2.2.2.1
    dsimp only at g0 g1 g2 g3 g4 g5 g6 g7 g8 g9 g10 g11 g12 g13
    go_enter Tryz.func18, Tryz.ntmps18
    go_wp2
    all_goals (go_ret; exact ⟨ret_bool HF.out.symm, hbz⟩)
  subst h12
  by_cases h13 : a13 = b13
  case neg =>
    have hf : t = false := not_of_iff HT.out.1 (fun e => h13 e.2.2.2.2.2.2.2.2.2.2.2.2.2.1)
    have HF := hide hf
    have x1 : (a13 == b13) = false := by rw [beq_eq_false_iff_ne]; exact h13
    have x2 : (a13 != b13) = true := by rw [bne_iff_ne]; exact h13
    clear hf HC
    have j0 := HV.out.1.cells.1
    have j1 := HV.out.1.cells.2.1
    have j2 := HV.out.1.cells.2.2.1
    have j3 := HV.out.1.cells.2.2.2.1
    have j4 := HV.out.1.cells.2.2.2.2.1
    have j5 := HV.out.1.cells.2.2.2.2.2.1
    have j6 := HV.out.1.cells.2.2.2.2.2.2.1
    have j7 := HV.out.1.cells.2.2.2.2.2.2.2.1
    have j8 := HV.out.1.cells.2.2.2.2.2.2.2.2.1
    have j9 := HV.out.1.cells.2.2.2.2.2.2.2.2.2.1
    have j10 := HV.out.1.cells.2.2.2.2.2.2.2.2.2.2.1
    have j11 := HV.out.1.cells.2.2.2.2.2.2.2.2.2.2.2.1
    have j12 := HV.out.1.cells.2.2.2.2.2.2.2.2.2.2.2.2.1
    have j13 := HV.out.1.cells.2.2.2.2.2.2.2.2.2.2.2.2.2.1
    dsimp only at j0 j1 j2 j3 j4 j5 j6 j7 j8 j9 j10 j11 j12 j13
    have g0 := HV.out.2.cells.1
    have g1 := HV.out.2.cells.2.1
    have g2 := HV.out.2.cells.2.2.1
    have g3 := HV.out.2.cells.2.2.2.1
    have g4 := HV.out.2.cells.2.2.2.2.1
    have g5 := HV.out.2.cells.2.2.2.2.2.1
    have g6 := HV.out.2.cells.2.2.2.2.2.2.1
    have g7 := HV.out.2.cells.2.2.2.2.2.2.2.1
    have g8 := HV.out.2.cells.2.2.2.2.2.2.2.2.1
    have g9 := HV.out.2.cells.2.2.2.2.2.2.2.2.2.1
    have g10 := HV.out.2.cells.2.2.2.2.2.2.2.2.2.2.1
    have g11 := HV.out.2.cells.2.2.2.2.2.2.2.2.2.2.2.1
    have g12 := HV.out.2.cells.2.2.2.2.2.2.2.2.2.2.2.2.1
    have g13 := HV.out.2.cells.2.2.2.2.2.2.2.2.2.2.2.2.2.1
    dsimp only at g0 g1 g2 g3 g4 g5 g6 g7 g8 g9 g10 g11 g12 g13
    go_enter Tryz.func18, Tryz.ntmps18
    go_wp2
    all_goals (go_ret; exact ⟨ret_bool HF.out.symm, hbz⟩)
  subst h13
  have j0 := HV.out.1.cells.1
  have j1 := HV.out.1.cells.2.1
  have j2 := HV.out.1.cells.2.2.1
  have j3 := HV.out.1.cells.2.2.2.1
  have j4 := HV.out.1.cells.2.2.2.2.1
  have j5 := HV.out.1.cells.2.2.2.2.2.1
  have j6 := HV.out.1.cells.2.2.2.2.2.2.1
  have j7 := HV.out.1.cells.2.2.2.2.2.2.2.1
  have j8 := HV.out.1.cells.2.2.2.2.2.2.2.2.1
  have j9 := HV.out.1.cells.2.2.2.2.2.2.2.2.2.1
  have j10 := HV.out.1.cells.2.2.2.2.2.2.2.2.2.2.1
  have j11 := HV.out.1.cells.2.2.2.2.2.2.2.2.2.2.2.1
  have j12 := HV.out.1.cells.2.2.2.2.2.2.2.2.2.2.2.2.1
  have j13 := HV.out.1.cells.2.2.2.2.2.2.2.2.2.2.2.2.2.1
  have j14 := HV.out.1.cells.2.2.2.2.2.2.2.2.2.2.2.2.2.2.1
  have j15 := HV.out.1.cells.2.2.2.2.2.2.2.2.2.2.2.2.2.2.2.1
  have j16 := HV.out.1.cells.2.2.2.2.2.2.2.2.2.2.2.2.2.2.2.2.1
  have j17 := HV.out.1.cells.2.2.2.2.2.2.2.2.2.2.2.2.2.2.2.2.2.1
  have j18 := HV.out.1.cells.2.2.2.2.2.2.2.2.2.2.2.2.2.2.2.2.2.2.1
  have j19 := HV.out.1.cells.2.2.2.2.2.2.2.2.2.2.2.2.2.2.2.2.2.2.2.1
  have j20 := HV.out.1.cells.2.2.2.2.2.2.2.2.2.2.2.2.2.2.2.2.2.2.2.2.1
  have j21 := HV.out.1.cells.2.2.2.2.2.2.2.2.2.2.2.2.2.2.2.2.2.2.2.2.2.1
  have j22 := HV.out.1.cells.2.2.2.2.2.2.2.2.2.2.2.2.2.2.2.2.2.2.2.2.2.2.1
  have j23 := HV.out.1.cells.2.2.2.2.2.2.2.2.2.2.2.2.2.2.2.2.2.2.2.2.2.2.2.1
  have j24 := HV.out.1.cells.2.2.2.2.2.2.2.2.2.2.2.2.2.2.2.2.2.2.2.2.2.2.2.2.1
  have j25 := HV.out.1.cells.2.2.2.2.2.2.2.2.2.2.2.2.2.2.2.2.2.2.2.2.2.2.2.2.2.1
  have j26 := HV.out.1.cells.2.2.2.2.2.2.2.2.2.2.2.2.2.2.2.2.2.2.2.2.2.2.2.2.2.2.1
  have j27 := HV.out.1.cells.2.2.2.2.2.2.2.2.2.2.2.2.2.2.2.2.2.2.2.2.2.2.2.2.2.2.2.1
  have j28 := HV.out.1.cells.2.2.2.2.2.2.2.2.2.2.2.2.2.2.2.2.2.2.2.2.2.2.2.2.2.2.2.2
  dsimp only at j0 j1 j2 j3 j4 j5 j6 j7 j8 j9 j10 j11 j12 j13 j14 j15 j16 j17 j18 j19 j20 j21 j22 j23 j24 j25 j26 j27 j28
  have g0 := HV.out.2.cells.1
  have g1 := HV.out.2.cells.2.1
  have g2 := HV.out.2.cells.2.2.1
  have g3 := HV.out.2.cells.2.2.2.1
  have g4 := HV.out.2.cells.2.2.2.2.1
  have g5 := HV.out.2.cells.2.2.2.2.2.1
  have g6 := HV.out.2.cells.2.2.2.2.2.2.1
  have g7 := HV.out.2.cells.2.2.2.2.2.2.2.1
  have g8 := HV.out.2.cells.2.2.2.2.2.2.2.2.1
  have g9 := HV.out.2.cells.2.2.2.2.2.2.2.2.2.1
  have g10 := HV.out.2.cells.2.2.2.2.2.2.2.2.2.2.1
  have g11 := HV.out.2.cells.2.2.2.2.2.2.2.2.2.2.2.1
  have g12 := HV.out.2.cells.2.2.2.2.2.2.2.2.2.2.2.2.1
  have g13 := HV.out.2.cells.2.2.2.2.2.2.2.2.2.2.2.2.2.1
  have g14 := HV.out.2.cells.2.2.2.2.2.2.2.2.2.2.2.2.2.2.1
  have g15 := HV.out.2.cells.2.2.2.2.2.2.2.2.2.2.2.2.2.2.2.1
  have g16 := HV.out.2.cells.2.2.2.2.2.2.2.2.2.2.2.2.2.2.2.2.1
  have g17 := HV.out.2.cells.2.2.2.2.2.2.2.2.2.2.2.2.2.2.2.2.2.1
  have g18 := HV.out.2.cells.2.2.2.2.2.2.2.2.2.2.2.2.2.2.2.2.2.2.1
  have g19 := HV.out.2.cells.2.2.2.2.2.2.2.2.2.2.2.2.2.2.2.2.2.2.2.1
  have g20 := HV.out.2.cells.2.2.2.2.2.2.2.2.2.2.2.2.2.2.2.2.2.2.2.2.1
  have g21 := HV.out.2.cells.2.2.2.2.2.2.2.2.2.2.2.2.2.2.2.2.2.2.2.2.2.1
  have g22 := HV.out.2.cells.2.2.2.2.2.2.2.2.2.2.2.2.2.2.2.2.2.2.2.2.2.2.1
  have g23 := HV.out.2.cells.2.2.2.2.2.2.2.2.2.2.2.2.2.2.2.2.2.2.2.2.2.2.2.1
  have g24 := HV.out.2.cells.2.2.2.2.2.2.2.2.2.2.2.2.2.2.2.2.2.2.2.2.2.2.2.2.1
  have g25 := HV.out.2.cells.2.2.2.2.2.2.2.2.2.2.2.2.2.2.2.2.2.2.2.2.2.2.2.2.2.1
  have g26 := HV.out.2.cells.2.2.2.2.2.2.2.2.2.2.2.2.2.2.2.2.2.2.2.2.2.2.2.2.2.2.1
  have g27 := HV.out.2.cells.2.2.2.2.2.2.2.2.2.2.2.2.2.2.2.2.2.2.2.2.2.2.2.2.2.2.2.1
  have g28 := HV.out.2.cells.2.2.2.2.2.2.2.2.2.2.2.2.2.2.2.2.2.2.2.2.2.2.2.2.2.2.2.2
  dsimp only at g0 g1 g2 g3 g4 g5 g6 g7 g8 g9 g10 g11 g12 g13 g14 g15 g16 g17 g18 g19 g20 g21 g22 g23 g24 g25 g26 g27 g28
  have cc := HC.out.1 w2 hbz
  go_enter Tryz.func18, Tryz.ntmps18
  cases uC
  · have hf : t = false := not_of_iff HT.out.1 (fun e => by have := HT.out.2.1.2 e.2.2.2.2.2.2.2.2.2.2.2.2.2.2.1; cases this)
    have HF := hide hf
    clear hf
    go_wp2_with fail
    refine cc.mono ?_
    rintro e w3 ⟨rfl, hb⟩
    have hb3 := hbz.trans (hb.mono hbz.size)
    clear cc hw2
    go_wp2
    go_ret
    exact ⟨ret_bool HF.out.symm, hb3⟩
  go_wp2_with fail
  refine cc.mono ?_
  rintro e w3 ⟨rfl, hb⟩
  have hb3 := hbz.trans (hb.mono hbz.size)
  have HV3 := hide (And.intro (HV.out.1.later hb) (HV.out.2.later hb))
  have cv := HC.out.2.1 w3 hb3
  clear cc hb j0 g0 j1 g1 j2 g2 j3 g3 j4 g4 j5 g5 j6 g6 j7 g7 j8 g8 j9 g9 j10 g10 j11 g11 j12 g12 j13 g13 j14 g14 j15 g15 j16 g16 j17 g17 j18 g18 j19 g19 j20 g20 j21 g21 j22 g22 j23 g23 j24 g24 j25 g25 j26 g26 j27 g27 j28 g28
  have j24 := HV3.out.1.cells.2.2.2.2.2.2.2.2.2.2.2.2.2.2.2.2.2.2.2.2.2.2.2.2.1
  have j25 := HV3.out.1.cells.2.2.2.2.2.2.2.2.2.2.2.2.2.2.2.2.2.2.2.2.2.2.2.2.2.1
  have j26 := HV3.out.1.cells.2.2.2.2.2.2.2.2.2.2.2.2.2.2.2.2.2.2.2.2.2.2.2.2.2.2.1
  have j27 := HV3.out.1.cells.2.2.2.2.2.2.2.2.2.2.2.2.2.2.2.2.2.2.2.2.2.2.2.2.2.2.2.1
  have j28 := HV3.out.1.cells.2.2.2.2.2.2.2.2.2.2.2.2.2.2.2.2.2.2.2.2.2.2.2.2.2.2.2.2
  dsimp only at j24 j25 j26 j27 j28
  have g24 := HV3.out.2.cells.2.2.2.2.2.2.2.2.2.2.2.2.2.2.2.2.2.2.2.2.2.2.2.2.1
  have g25 := HV3.out.2.cells.2.2.2.2.2.2.2.2.2.2.2.2.2.2.2.2.2.2.2.2.2.2.2.2.2.1
  have g26 := HV3.out.2.cells.2.2.2.2.2.2.2.2.2.2.2.2.2.2.2.2.2.2.2.2.2.2.2.2.2.2.1
  have g27 := HV3.out.2.cells.2.2.2.2.2.2.2.2.2.2.2.2.2.2.2.2.2.2.2.2.2.2.2.2.2.2.2.1
  have g28 := HV3.out.2.cells.2.2.2.2.2.2.2.2.2.2.2.2.2.2.2.2.2.2.2.2.2.2.2.2.2.2.2.2
  dsimp only at g24 g25 g26 g27 g28
  cases uV
  · have hf : t = false := not_of_iff HT.out.1 (fun e => by have := HT.out.2.2.1.2 e.2.2.2.2.2.2.2.2.2.2.2.2.2.2.2.1; cases this)
    have HF := hide hf
    clear hf
    go_wp2_with fail
    refine cv.mono ?_
    rintro e w4 ⟨rfl, hb⟩
    have hb4 := hb3.trans (hb.mono hb3.size)
    clear cv
    go_wp2
    go_ret
    exact ⟨ret_bool HF.out.symm, hb4⟩
  have hf : t = uB := by
    rw [Bool.eq_iff_iff, HT.out.1, HT.out.2.2.2]
    exact ⟨fun e => e.2.2.2.2.2.2.2.2.2.2.2.2.2.2.2.2, fun e => ⟨(by first | rfl | trivial), (by first | rfl | trivial), (by first | rfl | trivial), (by first | rfl | trivial), (by first | rfl | trivial), (by first | rfl | trivial), (by first | rfl | trivial), (by first | rfl | trivial), (by first | rfl | trivial), (by first | rfl | trivial), (by first | rfl | trivial), (by first | rfl | trivial), (by first | rfl | trivial), (by first | rfl | trivial), HT.out.2.1.1 (by first | rfl | trivial), HT.out.2.2.1.1 (by first | rfl | trivial), e⟩⟩
  have HF := hide hf
  clear hf
  go_wp2_with fail
  refine cv.mono ?_
  rintro e w4 ⟨rfl, hb⟩
  have hb4 := hb3.trans (hb.mono hb3.size)
  have HV4 := hide (And.intro (HV3.out.1.later hb) (HV3.out.2.later hb))
  have cb := HC.out.2.2 w4 hb4
  clear cv hb j24 g24 j25 g25 j26 g26 j27 g27 j28 g28
  have j28 := HV4.out.1.cells.2.2.2.2.2.2.2.2.2.2.2.2.2.2.2.2.2.2.2.2.2.2.2.2.2.2.2.2
  dsimp only at j28
  have g28 := HV4.out.2.cells.2.2.2.2.2.2.2.2.2.2.2.2.2.2.2.2.2.2.2.2.2.2.2.2.2.2.2.2
  dsimp only at g28
  go_wp2_with fail
  refine cb.mono ?_
  rintro e w5 ⟨rfl, hd⟩
  have hb5 := hb4.trans ((drawn_below hd).mono hb4.size)
  clear cb hd
  go_wp2
  go_ret
  exact ⟨ret_bool HF.out.symm, hb5⟩
end Go.Proofs.YtjmkecaljkcoiaaGreatDoor
