/-
  Things in memory; the law's own lay: what is laid, and its form by the document; awake.
-/
import Derived.Test.YtgbfpolcefhemaaWr2
import Derived.Deep.WholeRow
namespace Go.Proofs.Ytgbfpolcefhemaa
open Go.RowKit
set_option linter.unusedVariables false
set_option linter.unusedSimpArgs false

/-- The block b is just this thing. -/
def ThAt (w : World) (b : Nat) (x : Th) : Prop := w.heap[b]? = some (.cells #[.int .i64 x.kind, .int .u64 (x.n : Int), .bool x.t, .int .u32 (x.r : Int), .int .u16 (x.p.i : Int), .int .u32 (x.p.k : Int), .slice x.A x.m x.c, .slice x.B x.d x.e, .int .i64 x.most] 39)
section
variable {w w' : World} {b b' : Nat} {mg : Option Nat} {x : Th}
theorem ThAt.lt (h : ThAt w b x) : b < w.heap.size := lt_of_heap h
theorem ThAt.cells (h : ThAt w b x) : w.cell? ⟨b, 0, none⟩ = some (.int .i64 x.kind) ∧ w.cell? ⟨b, 1, none⟩ = some (.int .u64 (x.n : Int)) ∧ w.cell? ⟨b, 2, none⟩ = some (.bool x.t) ∧ w.cell? ⟨b, 3, none⟩ = some (.int .u32 (x.r : Int)) ∧
    w.cell? ⟨b, 4, none⟩ = some (.int .u16 (x.p.i : Int)) ∧ w.cell? ⟨b, 5, none⟩ = some (.int .u32 (x.p.k : Int)) ∧ w.cell? ⟨b, 6, none⟩ = some (.slice x.A x.m x.c) ∧ w.cell? ⟨b, 7, none⟩ = some (.slice x.B x.d x.e) ∧ w.cell? ⟨b, 8, none⟩ = some (.int .i64 x.most) := by
  have hf : ∀ y, w.cell? ⟨b, y, none⟩ = (thC x).toArray[y]? := by
    intro y
    unfold ThAt at h
    simp [World.cell?, h, thC]
  exact ⟨hf 0, hf 1, hf 2, hf 3, hf 4, hf 5, hf 6, hf 7, hf 8⟩
theorem ThAt.frozen (h : ThAt w b x) (y : Nat) : w.frozen? ⟨b, y, none⟩ = false := frozen_of_row w b y _ _ h
theorem ThAt.new (w : World) (x : Th) : ThAt (w.alloc (.cells #[.int .i64 x.kind, .int .u64 (x.n : Int), .bool x.t, .int .u32 (x.r : Int), .int .u16 (x.p.i : Int), .int .u32 (x.p.k : Int), .slice x.A x.m x.c, .slice x.B x.d x.e, .int .i64 x.most] 39)) w.heap.size x := heap_alloc_new w _
theorem ThAt.later (h : ThAt w b x) (hb : Below w.heap.size w w') : ThAt w' b x := (hb.block b h.lt).trans h
theorem ThAt.turn (h : ThAt w b x) (ht : Turn w w' b' mg) (h1 : b ≠ b') (h2 : some b ≠ mg) : ThAt w' b x := (ht.block b h.lt h1 h2).trans h
end
/-- What a thing's form is. -/
def thF (x : Th) : List UInt8 :=
  if pickF x.kind 6 = 0 then shortL x.n else if pickF x.kind 6 = 1 then boolL x.t else if pickF x.kind 6 = 2 then pidL x.p.i x.p.k else
  if pickF x.kind 6 = 3 then shortL x.r ++ pidL x.p.i x.p.k else if pickF x.kind 6 = 4 then shortL x.m ++ x.l else shortL x.d ++ pidsL x.q
theorem pick6 (a : Int) : pickF a 6 = 0 ∨ pickF a 6 = 1 ∨ pickF a 6 = 2 ∨ pickF a 6 = 3 ∨ pickF a 6 = 4 ∨ pickF a 6 = 5 := by
  have := pickF_bd (a := a) (n := 6) (by decide)
  omega
theorem thF_len {w : World} {B0 : Nat} {x : Th} (h : ThIn w B0 x) (hm : x.m ≤ 300) (hd : x.d ≤ 60) : (thF x).length ≤ 2000 := by
  have h1 := (shortL_len x.n).2
  have h2 := pidL_len x.p.i x.p.k
  have h3 := (shortL_len x.r).2
  have h4 := (shortL_len x.m).2
  have h5 := (shortL_len x.d).2
  have h6 := pidsL_len x.q
  have h7 := h.bs.len
  have h8 := h.es.len
  have h9 : (boolL x.t).length = 1 := rfl
  unfold thF
  split
  · omega
  · split
    · omega
    · split
      · omega
      · split
        · rw [List.length_append]; omega
        · split
          · rw [List.length_append]; omega
          · rw [List.length_append]; omega
/-- What lay answers: the form, in memory; and the Writer holds it. -/
def LaidP (w : World) (base b : Nat) (mg : Option Nat) (L F : List UInt8) (e : Ending) (w' : World) : Prop :=
  ∃ A c mg', e = .returned (.slice A F.length c) ∧ Bs w' w'.heap.size A F.length F ∧ WrAt w' base b mg' (L ++ F) ∧ Turn w w' b mg ∧ Mov w mg mg'
theorem LaidP.of {w w1 w2 w3 : World} {base b : Nat} {mg mg2 : Option Nat} {L F : List UInt8} {A : Option Addr} {c : Nat} (hb1 : Below w.heap.size w w1) (h2 : WrAt w2 base b mg2 (L ++ F)) (ht : Turn w1 w2 b mg) (hm : Mov w1 mg mg2)
    (hO : OwnB w3 w2.heap.size (.slice A F.length c) F.length F) (hb3 : Below w2.heap.size w2 w3) : LaidP w base b mg L F (.returned (.slice A F.length c)) w3 := by
  refine ⟨A, c, mg2, rfl, hO.bs, h2.later hb3, (Turn.ahead hb1 ht).later hb3, ?_⟩
  rcases hm with rfl | ⟨g, rfl, hg⟩
  · exact .inl rfl
  · exact .inr ⟨g, rfl, Nat.le_trans hb1.size hg⟩

theorem thF_0 {x : Th} (hv : pickF x.kind 6 = 0) : thF x = shortL x.n := by
  unfold thF
  rw [hv]
  rfl
set_option maxRecDepth 100000 in
theorem lay7_0 (base b : Nat) (mg : Option Nat) (L : List UInt8) (x : Th) (w : World) (h0 : WrAt w base b mg L) (hbase : base ≤ w.heap.size) (hn : L.length ≤ 1000000) (hx : ThIn w base x) (hm : x.m ≤ 1000) (hd : x.d ≤ 1000) (hv : pickF x.kind 6 = 0) :
    Calls Try.prog 8 #[.pointer (some ⟨b, 0, none⟩), .agg #[.int .i64 x.kind, .int .u64 (x.n : Int), .bool x.t, .int .u32 (x.r : Int), .int .u16 (x.p.i : Int), .int .u32 (x.p.k : Int), .slice x.A x.m x.c, .slice x.B x.d x.e, .int .i64 x.most]] w (LaidP w base b mg L (thF x)) := by
  rw [thF_0 hv]
  have cp := fun W => pick_any x.kind 6 W hx.k0 hx.k1 (by decide) (by decide)
  rw [hv] at cp
  have hL : L.length ≤ 10000000 := by omega
  have hb1 : Below w.heap.size w (w.alloc (.cells #[.int .i64 x.kind, .int .u64 (x.n : Int), .bool x.t, .int .u32 (x.r : Int), .int .u16 (x.p.i : Int), .int .u32 (x.p.k : Int), .slice x.A x.m x.c, .slice x.B x.d x.e, .int .i64 x.most] 39)) := (Below.refl _ _).alloc (Nat.le_refl _) _
  have hT := ThAt.new w x
  have h1 := h0.later hb1
  have hx1 := hx.below (hb1.mono hbase)
  have hs1 := hb1.size
  have hlt := h0.lt
  have hml := h0.mlt
  have cw := fun W (h : WrAt W base b mg L) (hW : base ≤ W.heap.size) (hxW : ThIn W base x) => wnum_any base b mg L x.n W h hW hL hx.hn
  have cr := fun W (hW : base ≤ W.heap.size) (hxW : ThIn W base x) => rnum7_any x.n W hx.hn
  generalize shortL x.n = F at *
  clear hv
  go_enter Try.func8, Try.ntmps8
  go_wp2_with fail
  refine (cp _).mono ?_
  rintro e w' ⟨rfl, rfl⟩
  obtain ⟨w1, hw1⟩ : ∃ w1, w1 = (w.alloc (.cells #[.int .i64 x.kind, .int .u64 (x.n : Int), .bool x.t, .int .u32 (x.r : Int), .int .u16 (x.p.i : Int), .int .u32 (x.p.k : Int), .slice x.A x.m x.c, .slice x.B x.d x.e, .int .i64 x.most] 39)) := ⟨_, rfl⟩
  rw [← hw1] at hb1 hT h1 hx1 hs1 ⊢
  clear hw1 cp
  obtain ⟨f0, f1, f2, f3, f4, f5, f6, f7, f8⟩ := hT.cells
  go_wp2_with fail
  refine (cw w1 h1 (by omega) hx1).mono ?_
  rintro e w2 ⟨rfl, mg2, h2, ht2, hm2⟩
  have hT2 := hT.turn ht2 (by omega) (fun e => by have := (hml _ e.symm).2.1; omega)
  have hx2 := hx1.below (h1.turned ht2 (by omega))
  have hs2 := ht2.size
  clear f0 f1 f2 f3 f4 f5 f6 f7 f8 hT cw
  obtain ⟨f0, f1, f2, f3, f4, f5, f6, f7, f8⟩ := hT2.cells
  go_wp2_with fail
  refine (cr w2 (by omega) hx2).mono ?_
  rintro e w3 ⟨A3, c3, rfl, hO3, hb3⟩
  have HW := Lib.hid (LaidP.of hb1 h2 ht2 hm2 hO3 hb3)
  clear f0 f1 f2 f3 f4 f5 f6 f7 f8 hT2 cr hO3 hb3 h2 ht2 hm2
  go_wp2
  go_ret
  exact HW.out
set_option maxRecDepth 100000 in
theorem lay7n_0 (base : Nat) (x : Th) (w : World) (hbase : base ≤ w.heap.size) (hx : ThIn w base x) (hm : x.m ≤ 140737488355000) (hd : x.d ≤ 1000) (hv : pickF x.kind 6 = 0) :
    Calls Try.prog 8 #[.pointer none, .agg #[.int .i64 x.kind, .int .u64 (x.n : Int), .bool x.t, .int .u32 (x.r : Int), .int .u16 (x.p.i : Int), .int .u32 (x.p.k : Int), .slice x.A x.m x.c, .slice x.B x.d x.e, .int .i64 x.most]] w fun e w' => (∃ v, e = .returned v) ∧ Below w.heap.size w w' := by
  have cp := fun W => pick_any x.kind 6 W hx.k0 hx.k1 (by decide) (by decide)
  rw [hv] at cp
  have hb1 : Below w.heap.size w (w.alloc (.cells #[.int .i64 x.kind, .int .u64 (x.n : Int), .bool x.t, .int .u32 (x.r : Int), .int .u16 (x.p.i : Int), .int .u32 (x.p.k : Int), .slice x.A x.m x.c, .slice x.B x.d x.e, .int .i64 x.most] 39)) := (Below.refl _ _).alloc (Nat.le_refl _) _
  have hT := ThAt.new w x
  have hx1 := hx.below (hb1.mono hbase)
  have hs1 := hb1.size
  have cw := fun W (hW : base ≤ W.heap.size) (hxW : ThIn W base x) => wnum_none x.n W hx.hn
  have cr := fun W (hW : base ≤ W.heap.size) (hxW : ThIn W base x) => rnum7_any x.n W hx.hn
  generalize shortL x.n = F at *
  clear hv
  go_enter Try.func8, Try.ntmps8
  go_wp2_with fail
  refine (cp _).mono ?_
  rintro e w' ⟨rfl, rfl⟩
  obtain ⟨w1, hw1⟩ : ∃ w1, w1 = (w.alloc (.cells #[.int .i64 x.kind, .int .u64 (x.n : Int), .bool x.t, .int .u32 (x.r : Int), .int .u16 (x.p.i : Int), .int .u32 (x.p.k : Int), .slice x.A x.m x.c, .slice x.B x.d x.e, .int .i64 x.most] 39)) := ⟨_, rfl⟩
  rw [← hw1] at hb1 hT hx1 hs1 ⊢
  clear hw1 cp
  obtain ⟨f0, f1, f2, f3, f4, f5, f6, f7, f8⟩ := hT.cells
  go_wp2_with fail
  refine (cw w1 (by omega) hx1).mono ?_
  rintro e w2 ⟨rfl, hb2⟩
  have hT2 := hT.later hb2
  have hbx := hb1.trans (hb2.mono hs1)
  have hx2 := hx1.below (hb2.mono (by omega))
  have hs2 := hb2.size
  clear f0 f1 f2 f3 f4 f5 f6 f7 f8 hT cw
  obtain ⟨f0, f1, f2, f3, f4, f5, f6, f7, f8⟩ := hT2.cells
  go_wp2_with fail
  refine (cr w2 (by omega) hx2).mono ?_
  rintro e w3 ⟨A3, c3, rfl, hO3, hb3⟩
  have hbz := hbx.trans (hb3.mono hbx.size)
  clear f0 f1 f2 f3 f4 f5 f6 f7 f8 hT2 cr hO3 hb3
  go_wp2
  go_ret
  exact ⟨⟨_, rfl⟩, hbz⟩
theorem thF_1 {x : Th} (hv : pickF x.kind 6 = 1) : thF x = boolL x.t := by
  unfold thF
  rw [hv]
  rfl
set_option maxRecDepth 100000 in
theorem lay7_1 (base b : Nat) (mg : Option Nat) (L : List UInt8) (x : Th) (w : World) (h0 : WrAt w base b mg L) (hbase : base ≤ w.heap.size) (hn : L.length ≤ 1000000) (hx : ThIn w base x) (hm : x.m ≤ 1000) (hd : x.d ≤ 1000) (hv : pickF x.kind 6 = 1) :
    Calls Try.prog 8 #[.pointer (some ⟨b, 0, none⟩), .agg #[.int .i64 x.kind, .int .u64 (x.n : Int), .bool x.t, .int .u32 (x.r : Int), .int .u16 (x.p.i : Int), .int .u32 (x.p.k : Int), .slice x.A x.m x.c, .slice x.B x.d x.e, .int .i64 x.most]] w (LaidP w base b mg L (thF x)) := by
  rw [thF_1 hv]
  have cp := fun W => pick_any x.kind 6 W hx.k0 hx.k1 (by decide) (by decide)
  rw [hv] at cp
  have hL : L.length ≤ 10000000 := by omega
  have hb1 : Below w.heap.size w (w.alloc (.cells #[.int .i64 x.kind, .int .u64 (x.n : Int), .bool x.t, .int .u32 (x.r : Int), .int .u16 (x.p.i : Int), .int .u32 (x.p.k : Int), .slice x.A x.m x.c, .slice x.B x.d x.e, .int .i64 x.most] 39)) := (Below.refl _ _).alloc (Nat.le_refl _) _
  have hT := ThAt.new w x
  have h1 := h0.later hb1
  have hx1 := hx.below (hb1.mono hbase)
  have hs1 := hb1.size
  have hlt := h0.lt
  have hml := h0.mlt
  have cw := fun W (h : WrAt W base b mg L) (hW : base ≤ W.heap.size) (hxW : ThIn W base x) => wtruth_any base b mg L x.t W h hW hL
  have cr := fun W (hW : base ≤ W.heap.size) (hxW : ThIn W base x) => rtruth7_any x.t W
  generalize boolL x.t = F at *
  clear hv
  go_enter Try.func8, Try.ntmps8
  go_wp2_with fail
  refine (cp _).mono ?_
  rintro e w' ⟨rfl, rfl⟩
  obtain ⟨w1, hw1⟩ : ∃ w1, w1 = (w.alloc (.cells #[.int .i64 x.kind, .int .u64 (x.n : Int), .bool x.t, .int .u32 (x.r : Int), .int .u16 (x.p.i : Int), .int .u32 (x.p.k : Int), .slice x.A x.m x.c, .slice x.B x.d x.e, .int .i64 x.most] 39)) := ⟨_, rfl⟩
  rw [← hw1] at hb1 hT h1 hx1 hs1 ⊢
  clear hw1 cp
  obtain ⟨f0, f1, f2, f3, f4, f5, f6, f7, f8⟩ := hT.cells
  go_wp2_with fail
  refine (cw w1 h1 (by omega) hx1).mono ?_
  rintro e w2 ⟨rfl, mg2, h2, ht2, hm2⟩
  have hT2 := hT.turn ht2 (by omega) (fun e => by have := (hml _ e.symm).2.1; omega)
  have hx2 := hx1.below (h1.turned ht2 (by omega))
  have hs2 := ht2.size
  clear f0 f1 f2 f3 f4 f5 f6 f7 f8 hT cw
  obtain ⟨f0, f1, f2, f3, f4, f5, f6, f7, f8⟩ := hT2.cells
  go_wp2_with fail
  refine (cr w2 (by omega) hx2).mono ?_
  rintro e w3 ⟨A3, c3, rfl, hO3, hb3⟩
  have HW := Lib.hid (LaidP.of hb1 h2 ht2 hm2 hO3 hb3)
  clear f0 f1 f2 f3 f4 f5 f6 f7 f8 hT2 cr hO3 hb3 h2 ht2 hm2
  go_wp2
  go_ret
  exact HW.out
set_option maxRecDepth 100000 in
theorem lay7n_1 (base : Nat) (x : Th) (w : World) (hbase : base ≤ w.heap.size) (hx : ThIn w base x) (hm : x.m ≤ 140737488355000) (hd : x.d ≤ 1000) (hv : pickF x.kind 6 = 1) :
    Calls Try.prog 8 #[.pointer none, .agg #[.int .i64 x.kind, .int .u64 (x.n : Int), .bool x.t, .int .u32 (x.r : Int), .int .u16 (x.p.i : Int), .int .u32 (x.p.k : Int), .slice x.A x.m x.c, .slice x.B x.d x.e, .int .i64 x.most]] w fun e w' => (∃ v, e = .returned v) ∧ Below w.heap.size w w' := by
  have cp := fun W => pick_any x.kind 6 W hx.k0 hx.k1 (by decide) (by decide)
  rw [hv] at cp
  have hb1 : Below w.heap.size w (w.alloc (.cells #[.int .i64 x.kind, .int .u64 (x.n : Int), .bool x.t, .int .u32 (x.r : Int), .int .u16 (x.p.i : Int), .int .u32 (x.p.k : Int), .slice x.A x.m x.c, .slice x.B x.d x.e, .int .i64 x.most] 39)) := (Below.refl _ _).alloc (Nat.le_refl _) _
  have hT := ThAt.new w x
  have hx1 := hx.below (hb1.mono hbase)
  have hs1 := hb1.size
  have cw := fun W (hW : base ≤ W.heap.size) (hxW : ThIn W base x) => wtruth_none x.t W
  have cr := fun W (hW : base ≤ W.heap.size) (hxW : ThIn W base x) => rtruth7_any x.t W
  generalize boolL x.t = F at *
  clear hv
  go_enter Try.func8, Try.ntmps8
  go_wp2_with fail
  refine (cp _).mono ?_
  rintro e w' ⟨rfl, rfl⟩
  obtain ⟨w1, hw1⟩ : ∃ w1, w1 = (w.alloc (.cells #[.int .i64 x.kind, .int .u64 (x.n : Int), .bool x.t, .int .u32 (x.r : Int), .int .u16 (x.p.i : Int), .int .u32 (x.p.k : Int), .slice x.A x.m x.c, .slice x.B x.d x.e, .int .i64 x.most] 39)) := ⟨_, rfl⟩
  rw [← hw1] at hb1 hT hx1 hs1 ⊢
  clear hw1 cp
  obtain ⟨f0, f1, f2, f3, f4, f5, f6, f7, f8⟩ := hT.cells
  go_wp2_with fail
  refine (cw w1 (by omega) hx1).mono ?_
  rintro e w2 ⟨rfl, hb2⟩
  have hT2 := hT.later hb2
  have hbx := hb1.trans (hb2.mono hs1)
  have hx2 := hx1.below (hb2.mono (by omega))
  have hs2 := hb2.size
  clear f0 f1 f2 f3 f4 f5 f6 f7 f8 hT cw
  obtain ⟨f0, f1, f2, f3, f4, f5, f6, f7, f8⟩ := hT2.cells
  go_wp2_with fail
  refine (cr w2 (by omega) hx2).mono ?_
  rintro e w3 ⟨A3, c3, rfl, hO3, hb3⟩
  have hbz := hbx.trans (hb3.mono hbx.size)
  clear f0 f1 f2 f3 f4 f5 f6 f7 f8 hT2 cr hO3 hb3
  go_wp2
  go_ret
  exact ⟨⟨_, rfl⟩, hbz⟩
theorem thF_2 {x : Th} (hv : pickF x.kind 6 = 2) : thF x = pidL x.p.i x.p.k := by
  unfold thF
  rw [hv]
  rfl
set_option maxRecDepth 100000 in
theorem lay7_2 (base b : Nat) (mg : Option Nat) (L : List UInt8) (x : Th) (w : World) (h0 : WrAt w base b mg L) (hbase : base ≤ w.heap.size) (hn : L.length ≤ 1000000) (hx : ThIn w base x) (hm : x.m ≤ 1000) (hd : x.d ≤ 1000) (hv : pickF x.kind 6 = 2) :
    Calls Try.prog 8 #[.pointer (some ⟨b, 0, none⟩), .agg #[.int .i64 x.kind, .int .u64 (x.n : Int), .bool x.t, .int .u32 (x.r : Int), .int .u16 (x.p.i : Int), .int .u32 (x.p.k : Int), .slice x.A x.m x.c, .slice x.B x.d x.e, .int .i64 x.most]] w (LaidP w base b mg L (thF x)) := by
  rw [thF_2 hv]
  have cp := fun W => pick_any x.kind 6 W hx.k0 hx.k1 (by decide) (by decide)
  rw [hv] at cp
  have hL : L.length ≤ 10000000 := by omega
  have hb1 : Below w.heap.size w (w.alloc (.cells #[.int .i64 x.kind, .int .u64 (x.n : Int), .bool x.t, .int .u32 (x.r : Int), .int .u16 (x.p.i : Int), .int .u32 (x.p.k : Int), .slice x.A x.m x.c, .slice x.B x.d x.e, .int .i64 x.most] 39)) := (Below.refl _ _).alloc (Nat.le_refl _) _
  have hT := ThAt.new w x
  have h1 := h0.later hb1
  have hx1 := hx.below (hb1.mono hbase)
  have hs1 := hb1.size
  have hlt := h0.lt
  have hml := h0.mlt
  have cw := fun W (h : WrAt W base b mg L) (hW : base ≤ W.heap.size) (hxW : ThIn W base x) => wpid_any base b mg L x.p.i x.p.k W h hW hL x.p.hi x.p.hk
  have cr := fun W (hW : base ≤ W.heap.size) (hxW : ThIn W base x) => rpid_any x.p.i x.p.k W x.p.hi x.p.hk
  generalize pidL x.p.i x.p.k = F at *
  clear hv
  go_enter Try.func8, Try.ntmps8
  go_wp2_with fail
  refine (cp _).mono ?_
  rintro e w' ⟨rfl, rfl⟩
  obtain ⟨w1, hw1⟩ : ∃ w1, w1 = (w.alloc (.cells #[.int .i64 x.kind, .int .u64 (x.n : Int), .bool x.t, .int .u32 (x.r : Int), .int .u16 (x.p.i : Int), .int .u32 (x.p.k : Int), .slice x.A x.m x.c, .slice x.B x.d x.e, .int .i64 x.most] 39)) := ⟨_, rfl⟩
  rw [← hw1] at hb1 hT h1 hx1 hs1 ⊢
  clear hw1 cp
  obtain ⟨f0, f1, f2, f3, f4, f5, f6, f7, f8⟩ := hT.cells
  go_wp2_with fail
  refine (cw w1 h1 (by omega) hx1).mono ?_
  rintro e w2 ⟨rfl, mg2, h2, ht2, hm2⟩
  have hT2 := hT.turn ht2 (by omega) (fun e => by have := (hml _ e.symm).2.1; omega)
  have hx2 := hx1.below (h1.turned ht2 (by omega))
  have hs2 := ht2.size
  clear f0 f1 f2 f3 f4 f5 f6 f7 f8 hT cw
  obtain ⟨f0, f1, f2, f3, f4, f5, f6, f7, f8⟩ := hT2.cells
  go_wp2_with fail
  refine (cr w2 (by omega) hx2).mono ?_
  rintro e w3 ⟨A3, c3, rfl, hO3, hb3⟩
  have HW := Lib.hid (LaidP.of hb1 h2 ht2 hm2 hO3 hb3)
  clear f0 f1 f2 f3 f4 f5 f6 f7 f8 hT2 cr hO3 hb3 h2 ht2 hm2
  go_wp2
  go_ret
  exact HW.out
set_option maxRecDepth 100000 in
theorem lay7n_2 (base : Nat) (x : Th) (w : World) (hbase : base ≤ w.heap.size) (hx : ThIn w base x) (hm : x.m ≤ 140737488355000) (hd : x.d ≤ 1000) (hv : pickF x.kind 6 = 2) :
    Calls Try.prog 8 #[.pointer none, .agg #[.int .i64 x.kind, .int .u64 (x.n : Int), .bool x.t, .int .u32 (x.r : Int), .int .u16 (x.p.i : Int), .int .u32 (x.p.k : Int), .slice x.A x.m x.c, .slice x.B x.d x.e, .int .i64 x.most]] w fun e w' => (∃ v, e = .returned v) ∧ Below w.heap.size w w' := by
  have cp := fun W => pick_any x.kind 6 W hx.k0 hx.k1 (by decide) (by decide)
  rw [hv] at cp
  have hb1 : Below w.heap.size w (w.alloc (.cells #[.int .i64 x.kind, .int .u64 (x.n : Int), .bool x.t, .int .u32 (x.r : Int), .int .u16 (x.p.i : Int), .int .u32 (x.p.k : Int), .slice x.A x.m x.c, .slice x.B x.d x.e, .int .i64 x.most] 39)) := (Below.refl _ _).alloc (Nat.le_refl _) _
  have hT := ThAt.new w x
  have hx1 := hx.below (hb1.mono hbase)
  have hs1 := hb1.size
  have cw := fun W (hW : base ≤ W.heap.size) (hxW : ThIn W base x) => wpid_none x.p.i x.p.k W x.p.hi x.p.hk
  have cr := fun W (hW : base ≤ W.heap.size) (hxW : ThIn W base x) => rpid_any x.p.i x.p.k W x.p.hi x.p.hk
  generalize pidL x.p.i x.p.k = F at *
  clear hv
  go_enter Try.func8, Try.ntmps8
  go_wp2_with fail
  refine (cp _).mono ?_
  rintro e w' ⟨rfl, rfl⟩
  obtain ⟨w1, hw1⟩ : ∃ w1, w1 = (w.alloc (.cells #[.int .i64 x.kind, .int .u64 (x.n : Int), .bool x.t, .int .u32 (x.r : Int), .int .u16 (x.p.i : Int), .int .u32 (x.p.k : Int), .slice x.A x.m x.c, .slice x.B x.d x.e, .int .i64 x.most] 39)) := ⟨_, rfl⟩
  rw [← hw1] at hb1 hT hx1 hs1 ⊢
  clear hw1 cp
  obtain ⟨f0, f1, f2, f3, f4, f5, f6, f7, f8⟩ := hT.cells
  go_wp2_with fail
  refine (cw w1 (by omega) hx1).mono ?_
  rintro e w2 ⟨rfl, hb2⟩
  have hT2 := hT.later hb2
  have hbx := hb1.trans (hb2.mono hs1)
  have hx2 := hx1.below (hb2.mono (by omega))
  have hs2 := hb2.size
  clear f0 f1 f2 f3 f4 f5 f6 f7 f8 hT cw
  obtain ⟨f0, f1, f2, f3, f4, f5, f6, f7, f8⟩ := hT2.cells
  go_wp2_with fail
  refine (cr w2 (by omega) hx2).mono ?_
  rintro e w3 ⟨A3, c3, rfl, hO3, hb3⟩
  have hbz := hbx.trans (hb3.mono hbx.size)
  clear f0 f1 f2 f3 f4 f5 f6 f7 f8 hT2 cr hO3 hb3
  go_wp2
  go_ret
  exact ⟨⟨_, rfl⟩, hbz⟩
theorem thF_3 {x : Th} (hv : pickF x.kind 6 = 3) : thF x = (shortL x.r ++ pidL x.p.i x.p.k) := by
  unfold thF
  rw [hv]
  rfl
set_option maxRecDepth 100000 in
theorem lay7_3 (base b : Nat) (mg : Option Nat) (L : List UInt8) (x : Th) (w : World) (h0 : WrAt w base b mg L) (hbase : base ≤ w.heap.size) (hn : L.length ≤ 1000000) (hx : ThIn w base x) (hm : x.m ≤ 1000) (hd : x.d ≤ 1000) (hv : pickF x.kind 6 = 3) :
    Calls Try.prog 8 #[.pointer (some ⟨b, 0, none⟩), .agg #[.int .i64 x.kind, .int .u64 (x.n : Int), .bool x.t, .int .u32 (x.r : Int), .int .u16 (x.p.i : Int), .int .u32 (x.p.k : Int), .slice x.A x.m x.c, .slice x.B x.d x.e, .int .i64 x.most]] w (LaidP w base b mg L (thF x)) := by
  rw [thF_3 hv]
  have cp := fun W => pick_any x.kind 6 W hx.k0 hx.k1 (by decide) (by decide)
  rw [hv] at cp
  have hL : L.length ≤ 10000000 := by omega
  have hb1 : Below w.heap.size w (w.alloc (.cells #[.int .i64 x.kind, .int .u64 (x.n : Int), .bool x.t, .int .u32 (x.r : Int), .int .u16 (x.p.i : Int), .int .u32 (x.p.k : Int), .slice x.A x.m x.c, .slice x.B x.d x.e, .int .i64 x.most] 39)) := (Below.refl _ _).alloc (Nat.le_refl _) _
  have hT := ThAt.new w x
  have h1 := h0.later hb1
  have hx1 := hx.below (hb1.mono hbase)
  have hs1 := hb1.size
  have hlt := h0.lt
  have hml := h0.mlt
  have cw := fun W (h : WrAt W base b mg L) (hW : base ≤ W.heap.size) (hxW : ThIn W base x) => wballot_any base b mg L x.r x.p.i x.p.k W h hW (by omega) hx.hr x.p.hi x.p.hk
  have cr := fun W (hW : base ≤ W.heap.size) (hxW : ThIn W base x) => rballot7_any x.r x.p.i x.p.k W hx.hr x.p.hi x.p.hk
  generalize (shortL x.r ++ pidL x.p.i x.p.k) = F at *
  clear hv
  go_enter Try.func8, Try.ntmps8
  go_wp2_with fail
  refine (cp _).mono ?_
  rintro e w' ⟨rfl, rfl⟩
  obtain ⟨w1, hw1⟩ : ∃ w1, w1 = (w.alloc (.cells #[.int .i64 x.kind, .int .u64 (x.n : Int), .bool x.t, .int .u32 (x.r : Int), .int .u16 (x.p.i : Int), .int .u32 (x.p.k : Int), .slice x.A x.m x.c, .slice x.B x.d x.e, .int .i64 x.most] 39)) := ⟨_, rfl⟩
  rw [← hw1] at hb1 hT h1 hx1 hs1 ⊢
  clear hw1 cp
  obtain ⟨f0, f1, f2, f3, f4, f5, f6, f7, f8⟩ := hT.cells
  go_wp2_with fail
  refine (cw w1 h1 (by omega) hx1).mono ?_
  rintro e w2 ⟨rfl, mg2, h2, ht2, hm2⟩
  have hT2 := hT.turn ht2 (by omega) (fun e => by have := (hml _ e.symm).2.1; omega)
  have hx2 := hx1.below (h1.turned ht2 (by omega))
  have hs2 := ht2.size
  clear f0 f1 f2 f3 f4 f5 f6 f7 f8 hT cw
  obtain ⟨f0, f1, f2, f3, f4, f5, f6, f7, f8⟩ := hT2.cells
  go_wp2_with fail
  refine (cr w2 (by omega) hx2).mono ?_
  rintro e w3 ⟨A3, c3, rfl, hO3, hb3⟩
  have HW := Lib.hid (LaidP.of hb1 h2 ht2 hm2 hO3 hb3)
  clear f0 f1 f2 f3 f4 f5 f6 f7 f8 hT2 cr hO3 hb3 h2 ht2 hm2
  go_wp2
  go_ret
  exact HW.out
set_option maxRecDepth 100000 in
theorem lay7n_3 (base : Nat) (x : Th) (w : World) (hbase : base ≤ w.heap.size) (hx : ThIn w base x) (hm : x.m ≤ 140737488355000) (hd : x.d ≤ 1000) (hv : pickF x.kind 6 = 3) :
    Calls Try.prog 8 #[.pointer none, .agg #[.int .i64 x.kind, .int .u64 (x.n : Int), .bool x.t, .int .u32 (x.r : Int), .int .u16 (x.p.i : Int), .int .u32 (x.p.k : Int), .slice x.A x.m x.c, .slice x.B x.d x.e, .int .i64 x.most]] w fun e w' => (∃ v, e = .returned v) ∧ Below w.heap.size w w' := by
  have cp := fun W => pick_any x.kind 6 W hx.k0 hx.k1 (by decide) (by decide)
  rw [hv] at cp
  have hb1 : Below w.heap.size w (w.alloc (.cells #[.int .i64 x.kind, .int .u64 (x.n : Int), .bool x.t, .int .u32 (x.r : Int), .int .u16 (x.p.i : Int), .int .u32 (x.p.k : Int), .slice x.A x.m x.c, .slice x.B x.d x.e, .int .i64 x.most] 39)) := (Below.refl _ _).alloc (Nat.le_refl _) _
  have hT := ThAt.new w x
  have hx1 := hx.below (hb1.mono hbase)
  have hs1 := hb1.size
  have cw := fun W (hW : base ≤ W.heap.size) (hxW : ThIn W base x) => wballot_none x.r x.p.i x.p.k W hx.hr x.p.hi x.p.hk
  have cr := fun W (hW : base ≤ W.heap.size) (hxW : ThIn W base x) => rballot7_any x.r x.p.i x.p.k W hx.hr x.p.hi x.p.hk
  generalize (shortL x.r ++ pidL x.p.i x.p.k) = F at *
  clear hv
  go_enter Try.func8, Try.ntmps8
  go_wp2_with fail
  refine (cp _).mono ?_
  rintro e w' ⟨rfl, rfl⟩
  obtain ⟨w1, hw1⟩ : ∃ w1, w1 = (w.alloc (.cells #[.int .i64 x.kind, .int .u64 (x.n : Int), .bool x.t, .int .u32 (x.r : Int), .int .u16 (x.p.i : Int), .int .u32 (x.p.k : Int), .slice x.A x.m x.c, .slice x.B x.d x.e, .int .i64 x.most] 39)) := ⟨_, rfl⟩
  rw [← hw1] at hb1 hT hx1 hs1 ⊢
  clear hw1 cp
  obtain ⟨f0, f1, f2, f3, f4, f5, f6, f7, f8⟩ := hT.cells
  go_wp2_with fail
  refine (cw w1 (by omega) hx1).mono ?_
  rintro e w2 ⟨rfl, hb2⟩
  have hT2 := hT.later hb2
  have hbx := hb1.trans (hb2.mono hs1)
  have hx2 := hx1.below (hb2.mono (by omega))
  have hs2 := hb2.size
  clear f0 f1 f2 f3 f4 f5 f6 f7 f8 hT cw
  obtain ⟨f0, f1, f2, f3, f4, f5, f6, f7, f8⟩ := hT2.cells
  go_wp2_with fail
  refine (cr w2 (by omega) hx2).mono ?_
  rintro e w3 ⟨A3, c3, rfl, hO3, hb3⟩
  have hbz := hbx.trans (hb3.mono hbx.size)
  clear f0 f1 f2 f3 f4 f5 f6 f7 f8 hT2 cr hO3 hb3
  go_wp2
  go_ret
  exact ⟨⟨_, rfl⟩, hbz⟩
theorem thF_4 {x : Th} (hv : pickF x.kind 6 = 4) : thF x = (shortL x.m ++ x.l) := by
  unfold thF
  rw [hv]
  rfl
set_option maxRecDepth 100000 in
theorem lay7_4 (base b : Nat) (mg : Option Nat) (L : List UInt8) (x : Th) (w : World) (h0 : WrAt w base b mg L) (hbase : base ≤ w.heap.size) (hn : L.length ≤ 1000000) (hx : ThIn w base x) (hm : x.m ≤ 1000) (hd : x.d ≤ 1000) (hv : pickF x.kind 6 = 4) :
    Calls Try.prog 8 #[.pointer (some ⟨b, 0, none⟩), .agg #[.int .i64 x.kind, .int .u64 (x.n : Int), .bool x.t, .int .u32 (x.r : Int), .int .u16 (x.p.i : Int), .int .u32 (x.p.k : Int), .slice x.A x.m x.c, .slice x.B x.d x.e, .int .i64 x.most]] w (LaidP w base b mg L (thF x)) := by
  rw [thF_4 hv]
  have cp := fun W => pick_any x.kind 6 W hx.k0 hx.k1 (by decide) (by decide)
  rw [hv] at cp
  have hL : L.length ≤ 10000000 := by omega
  have hb1 : Below w.heap.size w (w.alloc (.cells #[.int .i64 x.kind, .int .u64 (x.n : Int), .bool x.t, .int .u32 (x.r : Int), .int .u16 (x.p.i : Int), .int .u32 (x.p.k : Int), .slice x.A x.m x.c, .slice x.B x.d x.e, .int .i64 x.most] 39)) := (Below.refl _ _).alloc (Nat.le_refl _) _
  have hT := ThAt.new w x
  have h1 := h0.later hb1
  have hx1 := hx.below (hb1.mono hbase)
  have hs1 := hb1.size
  have hlt := h0.lt
  have hml := h0.mlt
  have cw := fun W (h : WrAt W base b mg L) (hW : base ≤ W.heap.size) (hxW : ThIn W base x) => wbytes_any base b mg L x.A x.m x.c x.l W h hW (by omega) hxW.bs (by omega)
  have cr := fun W (hW : base ≤ W.heap.size) (hxW : ThIn W base x) => rbytes7_any x.A x.m x.c x.l base W hxW.bs hW (by omega)
  generalize (shortL x.m ++ x.l) = F at *
  clear hv
  go_enter Try.func8, Try.ntmps8
  go_wp2_with fail
  refine (cp _).mono ?_
  rintro e w' ⟨rfl, rfl⟩
  obtain ⟨w1, hw1⟩ : ∃ w1, w1 = (w.alloc (.cells #[.int .i64 x.kind, .int .u64 (x.n : Int), .bool x.t, .int .u32 (x.r : Int), .int .u16 (x.p.i : Int), .int .u32 (x.p.k : Int), .slice x.A x.m x.c, .slice x.B x.d x.e, .int .i64 x.most] 39)) := ⟨_, rfl⟩
  rw [← hw1] at hb1 hT h1 hx1 hs1 ⊢
  clear hw1 cp
  obtain ⟨f0, f1, f2, f3, f4, f5, f6, f7, f8⟩ := hT.cells
  go_wp2_with fail
  refine (cw w1 h1 (by omega) hx1).mono ?_
  rintro e w2 ⟨rfl, mg2, h2, ht2, hm2⟩
  have hT2 := hT.turn ht2 (by omega) (fun e => by have := (hml _ e.symm).2.1; omega)
  have hx2 := hx1.below (h1.turned ht2 (by omega))
  have hs2 := ht2.size
  clear f0 f1 f2 f3 f4 f5 f6 f7 f8 hT cw
  obtain ⟨f0, f1, f2, f3, f4, f5, f6, f7, f8⟩ := hT2.cells
  go_wp2_with fail
  refine (cr w2 (by omega) hx2).mono ?_
  rintro e w3 ⟨A3, c3, rfl, hO3, hb3⟩
  have HW := Lib.hid (LaidP.of hb1 h2 ht2 hm2 hO3 hb3)
  clear f0 f1 f2 f3 f4 f5 f6 f7 f8 hT2 cr hO3 hb3 h2 ht2 hm2
  go_wp2
  go_ret
  exact HW.out
set_option maxRecDepth 100000 in
theorem lay7n_4 (base : Nat) (x : Th) (w : World) (hbase : base ≤ w.heap.size) (hx : ThIn w base x) (hm : x.m ≤ 140737488355000) (hd : x.d ≤ 1000) (hv : pickF x.kind 6 = 4) :
    Calls Try.prog 8 #[.pointer none, .agg #[.int .i64 x.kind, .int .u64 (x.n : Int), .bool x.t, .int .u32 (x.r : Int), .int .u16 (x.p.i : Int), .int .u32 (x.p.k : Int), .slice x.A x.m x.c, .slice x.B x.d x.e, .int .i64 x.most]] w fun e w' => (∃ v, e = .returned v) ∧ Below w.heap.size w w' := by
  have cp := fun W => pick_any x.kind 6 W hx.k0 hx.k1 (by decide) (by decide)
  rw [hv] at cp
  have hb1 : Below w.heap.size w (w.alloc (.cells #[.int .i64 x.kind, .int .u64 (x.n : Int), .bool x.t, .int .u32 (x.r : Int), .int .u16 (x.p.i : Int), .int .u32 (x.p.k : Int), .slice x.A x.m x.c, .slice x.B x.d x.e, .int .i64 x.most] 39)) := (Below.refl _ _).alloc (Nat.le_refl _) _
  have hT := ThAt.new w x
  have hx1 := hx.below (hb1.mono hbase)
  have hs1 := hb1.size
  have cw := fun W (hW : base ≤ W.heap.size) (hxW : ThIn W base x) => wbytes_none x.A x.m x.c W (Nat.le_trans hx.mc hx.room)
  have cr := fun W (hW : base ≤ W.heap.size) (hxW : ThIn W base x) => rbytes7_any x.A x.m x.c x.l base W hxW.bs hW (by omega)
  generalize (shortL x.m ++ x.l) = F at *
  clear hv
  go_enter Try.func8, Try.ntmps8
  go_wp2_with fail
  refine (cp _).mono ?_
  rintro e w' ⟨rfl, rfl⟩
  obtain ⟨w1, hw1⟩ : ∃ w1, w1 = (w.alloc (.cells #[.int .i64 x.kind, .int .u64 (x.n : Int), .bool x.t, .int .u32 (x.r : Int), .int .u16 (x.p.i : Int), .int .u32 (x.p.k : Int), .slice x.A x.m x.c, .slice x.B x.d x.e, .int .i64 x.most] 39)) := ⟨_, rfl⟩
  rw [← hw1] at hb1 hT hx1 hs1 ⊢
  clear hw1 cp
  obtain ⟨f0, f1, f2, f3, f4, f5, f6, f7, f8⟩ := hT.cells
  go_wp2_with fail
  refine (cw w1 (by omega) hx1).mono ?_
  rintro e w2 ⟨rfl, hb2⟩
  have hT2 := hT.later hb2
  have hbx := hb1.trans (hb2.mono hs1)
  have hx2 := hx1.below (hb2.mono (by omega))
  have hs2 := hb2.size
  clear f0 f1 f2 f3 f4 f5 f6 f7 f8 hT cw
  obtain ⟨f0, f1, f2, f3, f4, f5, f6, f7, f8⟩ := hT2.cells
  go_wp2_with fail
  refine (cr w2 (by omega) hx2).mono ?_
  rintro e w3 ⟨A3, c3, rfl, hO3, hb3⟩
  have hbz := hbx.trans (hb3.mono hbx.size)
  clear f0 f1 f2 f3 f4 f5 f6 f7 f8 hT2 cr hO3 hb3
  go_wp2
  go_ret
  exact ⟨⟨_, rfl⟩, hbz⟩
theorem thF_5 {x : Th} (hv : pickF x.kind 6 = 5) : thF x = (shortL x.d ++ pidsL x.q) := by
  unfold thF
  rw [hv]
  rfl
set_option maxRecDepth 100000 in
theorem lay7_5 (base b : Nat) (mg : Option Nat) (L : List UInt8) (x : Th) (w : World) (h0 : WrAt w base b mg L) (hbase : base ≤ w.heap.size) (hn : L.length ≤ 1000000) (hx : ThIn w base x) (hm : x.m ≤ 1000) (hd : x.d ≤ 1000) (hv : pickF x.kind 6 = 5) :
    Calls Try.prog 8 #[.pointer (some ⟨b, 0, none⟩), .agg #[.int .i64 x.kind, .int .u64 (x.n : Int), .bool x.t, .int .u32 (x.r : Int), .int .u16 (x.p.i : Int), .int .u32 (x.p.k : Int), .slice x.A x.m x.c, .slice x.B x.d x.e, .int .i64 x.most]] w (LaidP w base b mg L (thF x)) := by
  rw [thF_5 hv]
  have cp := fun W => pick_any x.kind 6 W hx.k0 hx.k1 (by decide) (by decide)
  rw [hv] at cp
  have hL : L.length ≤ 10000000 := by omega
  have hb1 : Below w.heap.size w (w.alloc (.cells #[.int .i64 x.kind, .int .u64 (x.n : Int), .bool x.t, .int .u32 (x.r : Int), .int .u16 (x.p.i : Int), .int .u32 (x.p.k : Int), .slice x.A x.m x.c, .slice x.B x.d x.e, .int .i64 x.most] 39)) := (Below.refl _ _).alloc (Nat.le_refl _) _
  have hT := ThAt.new w x
  have h1 := h0.later hb1
  have hx1 := hx.below (hb1.mono hbase)
  have hs1 := hb1.size
  have hlt := h0.lt
  have hml := h0.mlt
  have cw := fun W (h : WrAt W base b mg L) (hW : base ≤ W.heap.size) (hxW : ThIn W base x) => wpids_any base b mg L x.B x.d x.e x.q W h hW (by omega) hxW.es (by omega)
  have cr := fun W (hW : base ≤ W.heap.size) (hxW : ThIn W base x) => rpids7_any x.B x.d x.e x.q base W hxW.es hW (by omega)
  generalize (shortL x.d ++ pidsL x.q) = F at *
  clear hv
  go_enter Try.func8, Try.ntmps8
  go_wp2_with fail
  refine (cp _).mono ?_
  rintro e w' ⟨rfl, rfl⟩
  obtain ⟨w1, hw1⟩ : ∃ w1, w1 = (w.alloc (.cells #[.int .i64 x.kind, .int .u64 (x.n : Int), .bool x.t, .int .u32 (x.r : Int), .int .u16 (x.p.i : Int), .int .u32 (x.p.k : Int), .slice x.A x.m x.c, .slice x.B x.d x.e, .int .i64 x.most] 39)) := ⟨_, rfl⟩
  rw [← hw1] at hb1 hT h1 hx1 hs1 ⊢
  clear hw1 cp
  obtain ⟨f0, f1, f2, f3, f4, f5, f6, f7, f8⟩ := hT.cells
  go_wp2_with fail
  refine (cw w1 h1 (by omega) hx1).mono ?_
  rintro e w2 ⟨rfl, mg2, h2, ht2, hm2⟩
  have hT2 := hT.turn ht2 (by omega) (fun e => by have := (hml _ e.symm).2.1; omega)
  have hx2 := hx1.below (h1.turned ht2 (by omega))
  have hs2 := ht2.size
  clear f0 f1 f2 f3 f4 f5 f6 f7 f8 hT cw
  obtain ⟨f0, f1, f2, f3, f4, f5, f6, f7, f8⟩ := hT2.cells
  go_wp2_with fail
  refine (cr w2 (by omega) hx2).mono ?_
  rintro e w3 ⟨A3, c3, rfl, hO3, hb3⟩
  have HW := Lib.hid (LaidP.of hb1 h2 ht2 hm2 hO3 hb3)
  clear f0 f1 f2 f3 f4 f5 f6 f7 f8 hT2 cr hO3 hb3 h2 ht2 hm2
  go_wp2
  go_ret
  exact HW.out
set_option maxRecDepth 100000 in
theorem lay7n_5 (base : Nat) (x : Th) (w : World) (hbase : base ≤ w.heap.size) (hx : ThIn w base x) (hm : x.m ≤ 140737488355000) (hd : x.d ≤ 1000) (hv : pickF x.kind 6 = 5) :
    Calls Try.prog 8 #[.pointer none, .agg #[.int .i64 x.kind, .int .u64 (x.n : Int), .bool x.t, .int .u32 (x.r : Int), .int .u16 (x.p.i : Int), .int .u32 (x.p.k : Int), .slice x.A x.m x.c, .slice x.B x.d x.e, .int .i64 x.most]] w fun e w' => (∃ v, e = .returned v) ∧ Below w.heap.size w w' := by
  have cp := fun W => pick_any x.kind 6 W hx.k0 hx.k1 (by decide) (by decide)
  rw [hv] at cp
  have hb1 : Below w.heap.size w (w.alloc (.cells #[.int .i64 x.kind, .int .u64 (x.n : Int), .bool x.t, .int .u32 (x.r : Int), .int .u16 (x.p.i : Int), .int .u32 (x.p.k : Int), .slice x.A x.m x.c, .slice x.B x.d x.e, .int .i64 x.most] 39)) := (Below.refl _ _).alloc (Nat.le_refl _) _
  have hT := ThAt.new w x
  have hx1 := hx.below (hb1.mono hbase)
  have hs1 := hb1.size
  have cw := fun W (hW : base ≤ W.heap.size) (hxW : ThIn W base x) => wpids_none x.B x.d x.e x.q W (hxW.es.more hW) (Nat.le_trans hx.de hx.room2)
  have cr := fun W (hW : base ≤ W.heap.size) (hxW : ThIn W base x) => rpids7_any x.B x.d x.e x.q base W hxW.es hW (by omega)
  generalize (shortL x.d ++ pidsL x.q) = F at *
  clear hv
  go_enter Try.func8, Try.ntmps8
  go_wp2_with fail
  refine (cp _).mono ?_
  rintro e w' ⟨rfl, rfl⟩
  obtain ⟨w1, hw1⟩ : ∃ w1, w1 = (w.alloc (.cells #[.int .i64 x.kind, .int .u64 (x.n : Int), .bool x.t, .int .u32 (x.r : Int), .int .u16 (x.p.i : Int), .int .u32 (x.p.k : Int), .slice x.A x.m x.c, .slice x.B x.d x.e, .int .i64 x.most] 39)) := ⟨_, rfl⟩
  rw [← hw1] at hb1 hT hx1 hs1 ⊢
  clear hw1 cp
  obtain ⟨f0, f1, f2, f3, f4, f5, f6, f7, f8⟩ := hT.cells
  go_wp2_with fail
  refine (cw w1 (by omega) hx1).mono ?_
  rintro e w2 ⟨rfl, hb2⟩
  have hT2 := hT.later hb2
  have hbx := hb1.trans (hb2.mono hs1)
  have hx2 := hx1.below (hb2.mono (by omega))
  have hs2 := hb2.size
  clear f0 f1 f2 f3 f4 f5 f6 f7 f8 hT cw
  obtain ⟨f0, f1, f2, f3, f4, f5, f6, f7, f8⟩ := hT2.cells
  go_wp2_with fail
  refine (cr w2 (by omega) hx2).mono ?_
  rintro e w3 ⟨A3, c3, rfl, hO3, hb3⟩
  have hbz := hbx.trans (hb3.mono hbx.size)
  clear f0 f1 f2 f3 f4 f5 f6 f7 f8 hT2 cr hO3 hb3
  go_wp2
  go_ret
  exact ⟨⟨_, rfl⟩, hbz⟩
theorem lay7_any (base b : Nat) (mg : Option Nat) (L : List UInt8) (x : Th) (w : World) (h : WrAt w base b mg L) (hbase : base ≤ w.heap.size) (hn : L.length ≤ 1000000) (hx : ThIn w base x) (hm : x.m ≤ 1000) (hd : x.d ≤ 1000) :
    Calls Try.prog 8 #[.pointer (some ⟨b, 0, none⟩), .agg #[.int .i64 x.kind, .int .u64 (x.n : Int), .bool x.t, .int .u32 (x.r : Int), .int .u16 (x.p.i : Int), .int .u32 (x.p.k : Int), .slice x.A x.m x.c, .slice x.B x.d x.e, .int .i64 x.most]] w (LaidP w base b mg L (thF x)) := by
  rcases pick6 x.kind with hv | hv | hv | hv | hv | hv
  · exact lay7_0 base b mg L x w h hbase hn hx hm hd hv
  · exact lay7_1 base b mg L x w h hbase hn hx hm hd hv
  · exact lay7_2 base b mg L x w h hbase hn hx hm hd hv
  · exact lay7_3 base b mg L x w h hbase hn hx hm hd hv
  · exact lay7_4 base b mg L x w h hbase hn hx hm hd hv
  · exact lay7_5 base b mg L x w h hbase hn hx hm hd hv
theorem lay7_none (base : Nat) (x : Th) (w : World) (hbase : base ≤ w.heap.size) (hx : ThIn w base x) (hm : x.m ≤ 140737488355000) (hd : x.d ≤ 1000) :
    Calls Try.prog 8 #[.pointer none, .agg #[.int .i64 x.kind, .int .u64 (x.n : Int), .bool x.t, .int .u32 (x.r : Int), .int .u16 (x.p.i : Int), .int .u32 (x.p.k : Int), .slice x.A x.m x.c, .slice x.B x.d x.e, .int .i64 x.most]] w fun e w' => (∃ v, e = .returned v) ∧ Below w.heap.size w w' := by
  rcases pick6 x.kind with hv | hv | hv | hv | hv | hv
  · exact lay7n_0 base x w hbase hx hm hd hv
  · exact lay7n_1 base x w hbase hx hm hd hv
  · exact lay7n_2 base x w hbase hx hm hd hv
  · exact lay7n_3 base x w hbase hx hm hd hv
  · exact lay7n_4 base x w hbase hx hm hd hv
  · exact lay7n_5 base x w hbase hx hm hd hv
set_option maxRecDepth 100000 in
theorem awake7_any (w : World) :
    Calls Try.prog 7 #[] w fun e w' => e = .returned (.bool true) ∧ Below w.heap.size w w' := by
  have h1 := WrAt.new w w.heap.size (Nat.le_refl _)
  have hb1 : Below w.heap.size w (w.alloc (.cells #[.slice none 0 0] 28)) := (Below.refl _ _).alloc (Nat.le_refl _) _
  go_enter Try.func7, Try.ntmps7
  go_wp2_with fail
  generalize (w.alloc (.cells #[.slice none 0 0] 28)) = w1 at h1 hb1 ⊢
  refine (wnum_any w.heap.size _ none [] 300 w1 h1 hb1.size (by decide) (by decide)).mono ?_
  rintro e w2 ⟨rfl, mg2, h2, ht2, hm2⟩
  have hb2 := hb1.trans (h1.turned ht2 hb1.size)
  rw [show ([] : List UInt8) ++ shortL 300 = [172, 2] from by decide] at h2
  go_wp2_with fail
  refine (wtruth_any w.heap.size _ mg2 [172, 2] true w2 h2 hb2.size (by decide)).mono ?_
  rintro e w3 ⟨rfl, mg3, h3, ht3, hm3⟩
  have hb3 := hb2.trans (h2.turned ht3 hb2.size)
  rw [show ([172, 2] : List UInt8) ++ boolL true = [172, 2, 1] from by decide] at h3
  go_wp2_with fail
  refine (wdone_any w.heap.size _ mg3 [172, 2, 1] w3 h3 (by decide)).mono ?_
  rintro e w4 ⟨A4, c4, rfl, hO4, hb4⟩
  have hb5 := (hb3.trans (hb4.mono hb3.size))
  have hb6 := hb5.alloc hb5.size (.cells #[.int .u8 172, .int .u8 2, .int .u8 1] 5)
  clear hb1 hb2 hb3 hb4 h1 h2 h3 ht2 ht3 hm2 hm3
  go_wp2_with fail
  refine (same_eq _ _ _ _ _ _ [172, 2, 1] [172, 2, 1] _ _ _ (hO4.alloc _).bs (own_lit w4 0 3 [172, 2, 1] _ (by rfl) rfl (by decide) (Nat.zero_le _)).bs (by decide) rfl).mono ?_
  rintro e w5 ⟨rfl, hd⟩
  have hbz := hb6.trans (drawn_below hd)
  clear hd hO4 hb5 hb6
  go_wp2
  go_ret
  exact ⟨rfl, hbz⟩
/-- The forms of things, one behind the other. -/
def thsF (l : List Th) : List UInt8 := l.flatMap thF
theorem thsF_take {l : List Th} {j : Nat} (h : j < l.length) : thsF (l.take (j + 1)) = thsF (l.take j) ++ thF l[j] := by
  unfold thsF
  rw [List.take_succ_eq_append_getElem h, List.flatMap_append]
  simp only [List.flatMap_cons, List.flatMap_nil, List.append_nil]
end Go.Proofs.Ytgbfpolcefhemaa
