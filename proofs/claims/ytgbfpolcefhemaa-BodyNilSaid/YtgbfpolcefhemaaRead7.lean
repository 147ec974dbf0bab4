/-
  The law's own read, of a Reader that is none: it reads what the document's reader reads that is stopped.
-/
import Derived.Test.YtgbfpolcefhemaaLay7
import Derived.Test.YtgbfpolcefhemaaRd5
import Derived.Test.YtgbfpolcefhemaaRr1
import Derived.Test.YtgbfpolcefhemaaReg1
namespace Go.Proofs.Ytgbfpolcefhemaa
open Go.RowKit
set_option linter.unusedVariables false
set_option linter.unusedSimpArgs false

set_option maxRecDepth 100000 in
theorem read7n_0 (y : Nat) (x : Th) (B0 : Nat) (w : World) (hy : RrAt w y) (hx : ThIn w B0 x) (hv : pickF x.kind 6 = 0) :
    Calls Try.prog 22 #[.pointer none, .pointer (some ⟨y, 0, none⟩), .agg #[.int .i64 x.kind, .int .u64 (x.n : Int), .bool x.t, .int .u32 (x.r : Int), .int .u16 (x.p.i : Int), .int .u32 (x.p.k : Int), .slice x.A x.m x.c, .slice x.B x.d x.e, .int .i64 x.most]] w fun e w' => e = .returned (.bool true) ∧ Below w.heap.size w w' := by
  have cp := fun W => pick_any x.kind 6 W hx.k0 hx.k1 (by decide) (by decide)
  rw [hv] at cp
  have hb1 : Below w.heap.size w (w.alloc (.cells #[.int .i64 x.kind, .int .u64 (x.n : Int), .bool x.t, .int .u32 (x.r : Int), .int .u16 (x.p.i : Int), .int .u32 (x.p.k : Int), .slice x.A x.m x.c, .slice x.B x.d x.e, .int .i64 x.most] 39)) := (Below.refl _ _).alloc (Nat.le_refl _) _
  have hT := ThAt.new w x
  have hy1 := hy.later hb1
  have c1 := fun W => rdnum_none x.n W
  have c2 := fun W (h : RrAt W y) => rrnum y (x.n : Int) W h
  clear hv hy
  go_enter Try.func22, Try.ntmps22
  go_wp2_with fail
  refine (cp _).mono ?_
  rintro e w' ⟨rfl, rfl⟩
  obtain ⟨w1, hw1⟩ : ∃ w1, w1 = (w.alloc (.cells #[.int .i64 x.kind, .int .u64 (x.n : Int), .bool x.t, .int .u32 (x.r : Int), .int .u16 (x.p.i : Int), .int .u32 (x.p.k : Int), .slice x.A x.m x.c, .slice x.B x.d x.e, .int .i64 x.most] 39)) := ⟨_, rfl⟩
  rw [← hw1] at hb1 hT hy1 ⊢
  clear hw1 cp
  have hs1 := hb1.size
  obtain ⟨f0, f1, f2, f3, f4, f5, f6, f7, f8⟩ := hT.cells
  have g1 := Later.cell f1
  have g8 := Later.cell f8
  clear f0 f1 f2 f3 f4 f5 f6 f7 f8
  have k1 := fun z : Later w1 => calm_of (c1 z.w)
  have k2 := fun z : Later w1 => calm_same (c2 z.w (hy1.later z.below))
  clear c1 c2
  go_wp2
  refine wp_region_calm (by kernel_rfl) (by kernel_rfl) ?_
  repeat (go_big_quiet_step (first | (go_at_call 13; with_reducible exact k1 _) | (go_at_call 55; with_reducible exact k2 _)))
  refine wpQuiet_nil ?_
  rintro _ ⟨z, rfl⟩
  have hbz := hb1.trans (z.below.mono hs1)
  generalize z.w = w9 at hbz ⊢
  clear k1 k2 g1 g8
  go_wp2
  go_ret
  exact ⟨rfl, hbz⟩
set_option maxRecDepth 100000 in
theorem read7n_1 (y : Nat) (x : Th) (B0 : Nat) (w : World) (hy : RrAt w y) (hx : ThIn w B0 x) (hv : pickF x.kind 6 = 1) :
    Calls Try.prog 22 #[.pointer none, .pointer (some ⟨y, 0, none⟩), .agg #[.int .i64 x.kind, .int .u64 (x.n : Int), .bool x.t, .int .u32 (x.r : Int), .int .u16 (x.p.i : Int), .int .u32 (x.p.k : Int), .slice x.A x.m x.c, .slice x.B x.d x.e, .int .i64 x.most]] w fun e w' => e = .returned (.bool true) ∧ Below w.heap.size w w' := by
  have cp := fun W => pick_any x.kind 6 W hx.k0 hx.k1 (by decide) (by decide)
  rw [hv] at cp
  have hb1 : Below w.heap.size w (w.alloc (.cells #[.int .i64 x.kind, .int .u64 (x.n : Int), .bool x.t, .int .u32 (x.r : Int), .int .u16 (x.p.i : Int), .int .u32 (x.p.k : Int), .slice x.A x.m x.c, .slice x.B x.d x.e, .int .i64 x.most] 39)) := (Below.refl _ _).alloc (Nat.le_refl _) _
  have hT := ThAt.new w x
  have hy1 := hy.later hb1
  have c1 := fun W => rdtruth_none W
  have c2 := fun W (h : RrAt W y) => rrtruth y W h
  clear hv hy
  go_enter Try.func22, Try.ntmps22
  go_wp2_with fail
  refine (cp _).mono ?_
  rintro e w' ⟨rfl, rfl⟩
  obtain ⟨w1, hw1⟩ : ∃ w1, w1 = (w.alloc (.cells #[.int .i64 x.kind, .int .u64 (x.n : Int), .bool x.t, .int .u32 (x.r : Int), .int .u16 (x.p.i : Int), .int .u32 (x.p.k : Int), .slice x.A x.m x.c, .slice x.B x.d x.e, .int .i64 x.most] 39)) := ⟨_, rfl⟩
  rw [← hw1] at hb1 hT hy1 ⊢
  clear hw1 cp
  have hs1 := hb1.size
  go_wp2_with fail
  refine (c1 w1).mono ?_
  rintro e w2 ⟨rfl, hb2⟩
  have hy2 := hy1.later hb2
  have hb12 := hb1.trans (hb2.mono hs1)
  clear c1 hb1 hb2 hT hy1
  go_wp2_with fail
  refine (c2 w2 hy2).mono ?_
  rintro e w3 ⟨rfl, rfl⟩
  have hbz := hb12
  clear c2
  go_wp2
  go_ret
  exact ⟨rfl, hbz⟩
set_option maxRecDepth 100000 in
theorem read7n_2 (y : Nat) (x : Th) (B0 : Nat) (w : World) (hy : RrAt w y) (hx : ThIn w B0 x) (hv : pickF x.kind 6 = 2) :
    Calls Try.prog 22 #[.pointer none, .pointer (some ⟨y, 0, none⟩), .agg #[.int .i64 x.kind, .int .u64 (x.n : Int), .bool x.t, .int .u32 (x.r : Int), .int .u16 (x.p.i : Int), .int .u32 (x.p.k : Int), .slice x.A x.m x.c, .slice x.B x.d x.e, .int .i64 x.most]] w fun e w' => e = .returned (.bool true) ∧ Below w.heap.size w w' := by
  have cp := fun W => pick_any x.kind 6 W hx.k0 hx.k1 (by decide) (by decide)
  rw [hv] at cp
  have hb1 : Below w.heap.size w (w.alloc (.cells #[.int .i64 x.kind, .int .u64 (x.n : Int), .bool x.t, .int .u32 (x.r : Int), .int .u16 (x.p.i : Int), .int .u32 (x.p.k : Int), .slice x.A x.m x.c, .slice x.B x.d x.e, .int .i64 x.most] 39)) := (Below.refl _ _).alloc (Nat.le_refl _) _
  have hT := ThAt.new w x
  have hy1 := hy.later hb1
  have c1 := fun W => rdpid_none W
  have c2 := fun W (h : RrAt W y) => rrpid y W h
  clear hv hy
  go_enter Try.func22, Try.ntmps22
  go_wp2_with fail
  refine (cp _).mono ?_
  rintro e w' ⟨rfl, rfl⟩
  obtain ⟨w1, hw1⟩ : ∃ w1, w1 = (w.alloc (.cells #[.int .i64 x.kind, .int .u64 (x.n : Int), .bool x.t, .int .u32 (x.r : Int), .int .u16 (x.p.i : Int), .int .u32 (x.p.k : Int), .slice x.A x.m x.c, .slice x.B x.d x.e, .int .i64 x.most] 39)) := ⟨_, rfl⟩
  rw [← hw1] at hb1 hT hy1 ⊢
  clear hw1 cp
  have hs1 := hb1.size
  go_wp2_with fail
  refine (c1 w1).mono ?_
  rintro e w2 ⟨rfl, hb2⟩
  have hy2 := hy1.later hb2
  have hb12 := hb1.trans (hb2.mono hs1)
  clear c1 hb1 hb2 hT hy1
  go_wp2_with fail
  refine (c2 w2 hy2).mono ?_
  rintro e w3 ⟨rfl, hb3⟩
  have hbz := hb12.trans (hb3.mono hb12.size)
  clear c2
  go_wp2
  go_ret
  exact ⟨rfl, hbz⟩
set_option maxRecDepth 100000 in
theorem read7n_3 (y : Nat) (x : Th) (B0 : Nat) (w : World) (hy : RrAt w y) (hx : ThIn w B0 x) (hv : pickF x.kind 6 = 3) :
    Calls Try.prog 22 #[.pointer none, .pointer (some ⟨y, 0, none⟩), .agg #[.int .i64 x.kind, .int .u64 (x.n : Int), .bool x.t, .int .u32 (x.r : Int), .int .u16 (x.p.i : Int), .int .u32 (x.p.k : Int), .slice x.A x.m x.c, .slice x.B x.d x.e, .int .i64 x.most]] w fun e w' => e = .returned (.bool true) ∧ Below w.heap.size w w' := by
  have cp := fun W => pick_any x.kind 6 W hx.k0 hx.k1 (by decide) (by decide)
  rw [hv] at cp
  have hb1 : Below w.heap.size w (w.alloc (.cells #[.int .i64 x.kind, .int .u64 (x.n : Int), .bool x.t, .int .u32 (x.r : Int), .int .u16 (x.p.i : Int), .int .u32 (x.p.k : Int), .slice x.A x.m x.c, .slice x.B x.d x.e, .int .i64 x.most] 39)) := (Below.refl _ _).alloc (Nat.le_refl _) _
  have hT := ThAt.new w x
  have hy1 := hy.later hb1
  have c1 := fun W => rdballot_none W
  have c2 := fun W (h : RrAt W y) => rrballot y W h
  clear hv hy
  go_enter Try.func22, Try.ntmps22
  go_wp2_with fail
  refine (cp _).mono ?_
  rintro e w' ⟨rfl, rfl⟩
  obtain ⟨w1, hw1⟩ : ∃ w1, w1 = (w.alloc (.cells #[.int .i64 x.kind, .int .u64 (x.n : Int), .bool x.t, .int .u32 (x.r : Int), .int .u16 (x.p.i : Int), .int .u32 (x.p.k : Int), .slice x.A x.m x.c, .slice x.B x.d x.e, .int .i64 x.most] 39)) := ⟨_, rfl⟩
  rw [← hw1] at hb1 hT hy1 ⊢
  clear hw1 cp
  have hs1 := hb1.size
  go_wp2_with fail
  refine (c1 w1).mono ?_
  rintro e w2 ⟨rfl, hb2⟩
  have hy2 := hy1.later hb2
  have hb12 := hb1.trans (hb2.mono hs1)
  clear c1 hb1 hb2 hT hy1
  go_wp2_with fail
  refine (c2 w2 hy2).mono ?_
  rintro e w3 ⟨rfl, hb3⟩
  have hbz := hb12.trans (hb3.mono hb12.size)
  clear c2
  go_wp2
  go_ret
  exact ⟨rfl, hbz⟩
set_option maxRecDepth 100000 in
theorem read7n_4 (y : Nat) (x : Th) (B0 : Nat) (w : World) (hy : RrAt w y) (hx : ThIn w B0 x) (hv : pickF x.kind 6 = 4) :
    Calls Try.prog 22 #[.pointer none, .pointer (some ⟨y, 0, none⟩), .agg #[.int .i64 x.kind, .int .u64 (x.n : Int), .bool x.t, .int .u32 (x.r : Int), .int .u16 (x.p.i : Int), .int .u32 (x.p.k : Int), .slice x.A x.m x.c, .slice x.B x.d x.e, .int .i64 x.most]] w fun e w' => e = .returned (.bool true) ∧ Below w.heap.size w w' := by
  have cp := fun W => pick_any x.kind 6 W hx.k0 hx.k1 (by decide) (by decide)
  rw [hv] at cp
  have hb1 : Below w.heap.size w (w.alloc (.cells #[.int .i64 x.kind, .int .u64 (x.n : Int), .bool x.t, .int .u32 (x.r : Int), .int .u16 (x.p.i : Int), .int .u32 (x.p.k : Int), .slice x.A x.m x.c, .slice x.B x.d x.e, .int .i64 x.most] 39)) := (Below.refl _ _).alloc (Nat.le_refl _) _
  have hT := ThAt.new w x
  have hy1 := hy.later hb1
  have c1 := fun W => rdbytes_none x.most W
  have c2 := fun W (h : RrAt W y) => rrbytes y x.most W h hx.o0 hx.o1
  clear hv hy
  go_enter Try.func22, Try.ntmps22
  go_wp2_with fail
  refine (cp _).mono ?_
  rintro e w' ⟨rfl, rfl⟩
  obtain ⟨w1, hw1⟩ : ∃ w1, w1 = (w.alloc (.cells #[.int .i64 x.kind, .int .u64 (x.n : Int), .bool x.t, .int .u32 (x.r : Int), .int .u16 (x.p.i : Int), .int .u32 (x.p.k : Int), .slice x.A x.m x.c, .slice x.B x.d x.e, .int .i64 x.most] 39)) := ⟨_, rfl⟩
  rw [← hw1] at hb1 hT hy1 ⊢
  clear hw1 cp
  have hs1 := hb1.size
  obtain ⟨f0, f1, f2, f3, f4, f5, f6, f7, f8⟩ := hT.cells
  have g1 := Later.cell f1
  have g8 := Later.cell f8
  clear f0 f1 f2 f3 f4 f5 f6 f7 f8
  have k1 := fun z : Later w1 => calm_of (c1 z.w)
  have k2 := fun z : Later w1 => calm_of (c2 z.w (hy1.later z.below))
  clear c1 c2
  have k3 := fun z : Later w1 => calm_drawn (same_eq none none 0 0 0 0 [] [] 0 0 z.w Bs.none_ Bs.none_ (by decide) rfl)
  go_wp2
  refine wp_region_calm (by kernel_rfl) (by kernel_rfl) ?_
  repeat (go_big_quiet_step (first | (go_at_call 17; with_reducible exact k1 _) | (go_at_call 59; with_reducible exact k2 _) | (go_at_call 10; with_reducible exact k3 _)))
  refine wpQuiet_nil ?_
  rintro _ ⟨z, rfl⟩
  have hbz := hb1.trans (z.below.mono hs1)
  generalize z.w = w9 at hbz ⊢
  clear k1 k2 k3 g1 g8
  go_wp2
  go_ret
  exact ⟨rfl, hbz⟩
set_option maxRecDepth 100000 in
theorem read7n_5 (y : Nat) (x : Th) (B0 : Nat) (w : World) (hy : RrAt w y) (hx : ThIn w B0 x) (hv : pickF x.kind 6 = 5) :
    Calls Try.prog 22 #[.pointer none, .pointer (some ⟨y, 0, none⟩), .agg #[.int .i64 x.kind, .int .u64 (x.n : Int), .bool x.t, .int .u32 (x.r : Int), .int .u16 (x.p.i : Int), .int .u32 (x.p.k : Int), .slice x.A x.m x.c, .slice x.B x.d x.e, .int .i64 x.most]] w fun e w' => e = .returned (.bool true) ∧ Below w.heap.size w w' := by
  have cp := fun W => pick_any x.kind 6 W hx.k0 hx.k1 (by decide) (by decide)
  rw [hv] at cp
  have hb1 : Below w.heap.size w (w.alloc (.cells #[.int .i64 x.kind, .int .u64 (x.n : Int), .bool x.t, .int .u32 (x.r : Int), .int .u16 (x.p.i : Int), .int .u32 (x.p.k : Int), .slice x.A x.m x.c, .slice x.B x.d x.e, .int .i64 x.most] 39)) := (Below.refl _ _).alloc (Nat.le_refl _) _
  have hT := ThAt.new w x
  have hy1 := hy.later hb1
  have c1 := fun W => rdpids_none x.most W
  have c2 := fun W (h : RrAt W y) => rrpids y x.most W h hx.o0 hx.o1
  clear hv hy
  go_enter Try.func22, Try.ntmps22
  go_wp2_with fail
  refine (cp _).mono ?_
  rintro e w' ⟨rfl, rfl⟩
  obtain ⟨w1, hw1⟩ : ∃ w1, w1 = (w.alloc (.cells #[.int .i64 x.kind, .int .u64 (x.n : Int), .bool x.t, .int .u32 (x.r : Int), .int .u16 (x.p.i : Int), .int .u32 (x.p.k : Int), .slice x.A x.m x.c, .slice x.B x.d x.e, .int .i64 x.most] 39)) := ⟨_, rfl⟩
  rw [← hw1] at hb1 hT hy1 ⊢
  clear hw1 cp
  have hs1 := hb1.size
  obtain ⟨f0, f1, f2, f3, f4, f5, f6, f7, f8⟩ := hT.cells
  have g1 := Later.cell f1
  have g8 := Later.cell f8
  clear f0 f1 f2 f3 f4 f5 f6 f7 f8
  have k1 := fun z : Later w1 => calm_of (c1 z.w)
  have k2 := fun z : Later w1 => calm_of (c2 z.w (hy1.later z.below))
  clear c1 c2
  have k3 := fun z : Later w1 => calm_drawn (samep_eq none none 0 0 0 0 [] [] 0 0 z.w Es.none_ Es.none_ (by decide) rfl)
  go_wp2
  refine wp_region_calm (by kernel_rfl) (by kernel_rfl) ?_
  repeat (go_big_quiet_step (first | (go_at_call 19; with_reducible exact k1 _) | (go_at_call 60; with_reducible exact k2 _) | (go_at_call 18; with_reducible exact k3 _)))
  refine wpQuiet_nil ?_
  rintro _ ⟨z, rfl⟩
  have hbz := hb1.trans (z.below.mono hs1)
  generalize z.w = w9 at hbz ⊢
  clear k1 k2 k3 g1 g8
  go_wp2
  go_ret
  exact ⟨rfl, hbz⟩
theorem read7_none (y : Nat) (x : Th) (B0 : Nat) (w : World) (hy : RrAt w y) (hx : ThIn w B0 x) :
    Calls Try.prog 22 #[.pointer none, .pointer (some ⟨y, 0, none⟩), .agg #[.int .i64 x.kind, .int .u64 (x.n : Int), .bool x.t, .int .u32 (x.r : Int), .int .u16 (x.p.i : Int), .int .u32 (x.p.k : Int), .slice x.A x.m x.c, .slice x.B x.d x.e, .int .i64 x.most]] w fun e w' => e = .returned (.bool true) ∧ Below w.heap.size w w' := by
  rcases pick6 x.kind with hv | hv | hv | hv | hv | hv
  · exact read7n_0 y x B0 w hy hx hv
  · exact read7n_1 y x B0 w hy hx hv
  · exact read7n_2 y x B0 w hy hx hv
  · exact read7n_3 y x B0 w hy hx hv
  · exact read7n_4 y x B0 w hy hx hv
  · exact read7n_5 y x B0 w hy hx hv
end Go.Proofs.Ytgbfpolcefhemaa
