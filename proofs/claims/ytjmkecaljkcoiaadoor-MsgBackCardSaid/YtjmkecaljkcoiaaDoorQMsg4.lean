import Derived.Test.YtjmkecaljkcoiaaDoorQMsg3
namespace Go.Proofs.YtjmkecaljkcoiaaDoor
open Go.RowKit Go.Maps
set_option linter.unusedVariables false
set_option linter.unusedSimpArgs false
set_option maxRecDepth 100000 in
set_option maxHeartbeats 4000000 in
theorem check10_any (z : Mx) (B : Nat) (w : World) (t : Bool) (h : MxIn w B z) (hs : MSmall z) (hB : B ≤ w.heap.size) (hK : Kinds w) (ht : t = true ↔ MayM z.m) :
    Calls Tryd.prog 11 #[.agg #[.int .i64 z.kind, .int .u16 (z.who.i : Int), .int .u32 (z.who.k : Int), .int .u64 (z.view : Int), .int .u64 (z.slot : Int), .int .u64 (z.num : Int), .int .i64 z.hops, .int .u32 (z.b.r : Int), .int .u16 (z.b.p.i : Int), .int .u32 (z.b.p.k : Int), .int .u32 (z.a.r : Int), .int .u16 (z.a.p.i : Int), .int .u32 (z.a.p.k : Int), .bool z.has, .int .i64 z.y.kind, .int .u16 (z.y.p.i : Int), .int .u32 (z.y.p.k : Int), .int .u64 (z.y.num : Int), .int .u64 (z.y.vn : Int), .slice z.y.A z.y.n z.y.c, .int .u64 (z.y.x.id : Int), .slice z.y.x.A z.y.x.m z.y.x.c, .slice z.y.x.B z.y.x.d z.y.x.e, .slice z.y.x.C z.y.x.f z.y.x.g, .int .u64 (z.x.id : Int), .slice z.x.A z.x.m z.x.c, .slice z.x.B z.x.d z.x.e, .slice z.x.C z.x.f z.x.g, .slice z.A z.n z.c]] w fun e w' => e = .returned (.int .i64 (ckI t)) ∧ Below w.heap.size w w' := by
  have hbz : Below w.heap.size w (w.alloc (.cells #[.int .i64 z.kind, .int .u16 (z.who.i : Int), .int .u32 (z.who.k : Int), .int .u64 (z.view : Int), .int .u64 (z.slot : Int), .int .u64 (z.num : Int), .int .i64 z.hops, .int .u32 (z.b.r : Int), .int .u16 (z.b.p.i : Int), .int .u32 (z.b.p.k : Int), .int .u32 (z.a.r : Int), .int .u16 (z.a.p.i : Int), .int .u32 (z.a.p.k : Int), .bool z.has, .int .i64 z.y.kind, .int .u16 (z.y.p.i : Int), .int .u32 (z.y.p.k : Int), .int .u64 (z.y.num : Int), .int .u64 (z.y.vn : Int), .slice z.y.A z.y.n z.y.c, .int .u64 (z.y.x.id : Int), .slice z.y.x.A z.y.x.m z.y.x.c, .slice z.y.x.B z.y.x.d z.y.x.e, .slice z.y.x.C z.y.x.f z.y.x.g, .int .u64 (z.x.id : Int), .slice z.x.A z.x.m z.x.c, .slice z.x.B z.x.d z.x.e, .slice z.x.C z.x.f z.x.g, .slice z.A z.n z.c] 37)) := (Below.refl _ _).alloc (Nat.le_refl _) _
  have v0 := MAt10.mk_ w z
  have CF := fun W (hb : Below w.heap.size w W) => fieldsOf_any z W (hK.later hb)
  have CS := fun W (hb : Below w.heap.size w W) => set10_any z B W (h.below (hb.mono hB)) (Nat.le_trans hB hb.size)
  have CW := fun W (hb : Below w.heap.size w W) => wrong10_any z B W (h.below (hb.mono hB)) hs (Nat.le_trans hB hb.size)
  clear h hs hK
  obtain ⟨q, hq⟩ : ∃ q, q = bitsM z.kind z.has := ⟨_, rfl⟩
  have hq1 : q < 2048 := by rw [hq]; exact bitsM_lt _ _
  have HT := hide (And.intro ht hq)
  rw [← hq] at CF
  clear ht hq
  have hs1 : (w.alloc (.cells #[.int .i64 z.kind, .int .u16 (z.who.i : Int), .int .u32 (z.who.k : Int), .int .u64 (z.view : Int), .int .u64 (z.slot : Int), .int .u64 (z.num : Int), .int .i64 z.hops, .int .u32 (z.b.r : Int), .int .u16 (z.b.p.i : Int), .int .u32 (z.b.p.k : Int), .int .u32 (z.a.r : Int), .int .u16 (z.a.p.i : Int), .int .u32 (z.a.p.k : Int), .bool z.has, .int .i64 z.y.kind, .int .u16 (z.y.p.i : Int), .int .u32 (z.y.p.k : Int), .int .u64 (z.y.num : Int), .int .u64 (z.y.vn : Int), .slice z.y.A z.y.n z.y.c, .int .u64 (z.y.x.id : Int), .slice z.y.x.A z.y.x.m z.y.x.c, .slice z.y.x.B z.y.x.d z.y.x.e, .slice z.y.x.C z.y.x.f z.y.x.g, .int .u64 (z.x.id : Int), .slice z.x.A z.x.m z.x.c, .slice z.x.B z.x.d z.x.e, .slice z.x.C z.x.f z.x.g, .slice z.A z.n z.c] 37)).heap.size = w.heap.size + 1 := by simp
  generalize hw1 : w.alloc (.cells #[.int .i64 z.kind, .int .u16 (z.who.i : Int), .int .u32 (z.who.k : Int), .int .u64 (z.view : Int), .int .u64 (z.slot : Int), .int .u64 (z.num : Int), .int .i64 z.hops, .int .u32 (z.b.r : Int), .int .u16 (z.b.p.i : Int), .int .u32 (z.b.p.k : Int), .int .u32 (z.a.r : Int), .int .u16 (z.a.p.i : Int), .int .u32 (z.a.p.k : Int), .bool z.has, .int .i64 z.y.kind, .int .u16 (z.y.p.i : Int), .int .u32 (z.y.p.k : Int), .int .u64 (z.y.num : Int), .int .u64 (z.y.vn : Int), .slice z.y.A z.y.n z.y.c, .int .u64 (z.y.x.id : Int), .slice z.y.x.A z.y.x.m z.y.x.c, .slice z.y.x.B z.y.x.d z.y.x.e, .slice z.y.x.C z.y.x.f z.y.x.g, .int .u64 (z.x.id : Int), .slice z.x.A z.x.m z.x.c, .slice z.x.B z.x.d z.x.e, .slice z.x.C z.x.f z.x.g, .slice z.A z.n z.c] 37) = w1 at *
  have cf := CF w1 hbz
  have j0 := v0.lt
  go_enter Tryd.func11, Tryd.ntmps11
  go_wp2_with (refine wpList_load_msg z w.heap.size rfl (.tmp 1) rfl rfl v0 ?_)
  refine cf.mono ?_
  rintro e w2 ⟨rfl, hb⟩
  have hb2 := hbz.trans (hb.mono hbz.size)
  have v2 := v0.later hb
  have j2 := v2.lt
  clear cf hw1 v0 hb hs1 hbz j0
  by_cases h0 : q = 0
  · have z0 : ((q : Int) == 0) = true := by rw [beq_iff_eq]; omega
    obtain rfl : t = false := not_of_iff HT.out.1 (fun e => e.some (by
      have e2 := HT.out.2
      rw [h0] at e2
      exact e2.symm))
    clear h0 CS CW CF
    go_wp2
    go_ret
    exact ⟨rfl, hb2⟩
  have z0 : ((q : Int) == 0) = false := by rw [beq_eq_false_iff_ne]; omega
  have cs := CS w2 hb2
  unfold SetsP at cs
  go_wp2_with (first | refine wpList_load_msg z w.heap.size rfl (.tmp 1) rfl rfl v2 ?_ | refine wpList_load_msg_yes z w.heap.size rfl (.tmp 1) rfl rfl v2 ?_)
  refine cs.mono ?_
  rintro e w3 ⟨s, rfl, hs1, hsb, hb⟩
  have hb3 := hb2.trans (hb.mono hb2.size)
  have v3 := v2.later hb
  clear cs v2 hb j2
  have j3 := v3.lt
  obtain ⟨x, hx⟩ : ∃ x : Nat, x = s &&& (65535 - q) := ⟨_, rfl⟩
  have e1 := u16_andNot_nat s q (by omega) (by omega)
  rw [← hx] at e1
  have HS := hide (And.intro hsb hx)
  clear hsb hx
  by_cases h1 : x = 0
  case neg =>
    have z1 : ((x : Int) != 0) = true := by rw [bne_iff_ne]; omega
    obtain rfl : t = false := not_of_iff HT.out.1 (fun e => h1 (by
      rw [HS.out.2, HT.out.2, andNot0_iff hs1 (bitsM_lt _ _)]
      intro i hi hb
      have h2 := (e.each i hi).2
      cases hh : (bitsM z.kind z.has).testBit i
      · exact absurd (h2 hh) ((HS.out.1 i hi).1 hb)
      · rfl))
    clear h1 CS CW CF
    go_wp2
    go_ret
    exact ⟨rfl, hb3⟩
  have z1 : ((x : Int) != 0) = false := by rw [h1]; rfl
  have cs := CW w3 hb3
  unfold SetsP at cs
  go_wp2_with (first | refine wpList_load_msg z w.heap.size rfl (.tmp 1) rfl rfl v3 ?_ | refine wpList_load_msg_yes z w.heap.size rfl (.tmp 1) rfl rfl v3 ?_)
  refine cs.mono ?_
  rintro e w4 ⟨u, rfl, hu1, hub, hb⟩
  have hb4 := hb3.trans (hb.mono hb3.size)
  clear cs v3 hb j3
  obtain ⟨y, hy⟩ : ∃ y : Nat, y = u &&& q := ⟨_, rfl⟩
  have e2 := u16_and_nat u q (by omega) (by omega)
  rw [← hy] at e2
  have hm := may_bits (m := z.m) hs1 hu1 HS.out.1 hub
  have HU := hide (And.intro hub (And.intro hy hm))
  clear hub hy hm
  by_cases h2 : y = 0
  · have z2 : ((y : Int) != 0) = false := by rw [h2]; rfl
    obtain rfl : t = true := HT.out.1.2 (HU.out.2.2.2 ⟨by
      have e := HT.out.2
      rw [← show q = bitsM z.m.kind z.m.has from e]
      exact h0, by
      rw [← show q = bitsM z.m.kind z.m.has from HT.out.2, ← HS.out.2]
      exact h1, by
      rw [← show q = bitsM z.m.kind z.m.has from HT.out.2, ← HU.out.2.1]
      exact h2⟩)
    clear h0 h1 h2 CS CW CF
    go_wp2
    go_ret
    exact ⟨rfl, hb4⟩
  · have z2 : ((y : Int) != 0) = true := by rw [bne_iff_ne]; omega
    obtain rfl : t = false := not_of_iff HT.out.1 (fun e => h2 (by
      have e2 := (HU.out.2.2.1 e).2.2
      rw [← show q = bitsM z.m.kind z.m.has from HT.out.2, ← HU.out.2.1] at e2
      exact e2))
    clear h0 h1 h2 CS CW CF
    go_wp2
    go_ret
    exact ⟨rfl, hb4⟩
end Go.Proofs.YtjmkecaljkcoiaaDoor
